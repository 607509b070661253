"""[5], [6]: a draft's text, which texts are read, and which row and word is refused."""

import random
import unittest

from loomwright.draft import Draft
from loomwright.drafttext import draft_text, read_draft
from loomwright.errors import BadRow, BadWord
from loomwright.groups import gathered
from tests.makers import STRANGE, Odd, draft_of, drawn_drafts
from tests.test_spreading import Reader

TEXT = """shafts 3
treadles 2
thread 1 0 3 2
tie 1 3
tie -
tread 1 - 1+2
warp a b a z
weft c d c"""
PARTS = (3, 2, [1, 0, 3, 2], [[1, 3], []], [[1], [], [1, 2]], ["a", "b", "a", "z"], ["c", "d", "c"])
NAMES = ["shafts", "treadles", "thread", "tie", "tie", "tread", "warp", "weft"]


def with_row(number, row):
    """The text with another row in a row's place."""
    rows = TEXT.split("\n")
    rows[number - 1] = row
    return "\n".join(rows)


def great_drafts():
    return drawn_drafts(51, 12, most_shafts=16, most_treadles=16, most_ends=60, most_picks=60)


class Refusal(Exception):
    pass


def reckoned(text):
    """What is read of a text, or the row and word that is refused; by a reading of the tests' own."""
    rows = text.split("\n")
    told = []

    def words_at(row, name):
        if row > len(rows):
            raise Refusal(row, 0)
        words = rows[row - 1].split(" ")
        if "" in words:
            raise Refusal(row, 0)
        if words[0] != name:
            raise Refusal(row, 1)
        return words[1:]

    def number(word, least, most):
        return word in [str(one) for one in range(least, most + 1)]

    def rises(words, most):
        return (all(number(word, 1, most) for word in words)
                and all(int(one) < int(other) for one, other in zip(words, words[1:])))

    def count(row, name):
        words = words_at(row, name)
        if not words or not number(words[0], 1, 16):
            raise Refusal(row, 2)
        if words[1:]:
            raise Refusal(row, 3)
        return int(words[0])

    def items(row, name, most, fits):
        try:
            return Reader(words_at(row, name), most, fits).within(0)
        except BadWord as error:
            raise Refusal(row, error.place + 1)

    def tie(row):
        words = words_at(row, "tie")
        for many in range(1, len(words) + 1):
            if words[:many] != ["-"] and not rises(words[:many], told[0]):
                raise Refusal(row, many + 1)
        if not words:
            raise Refusal(row, 2)
        return [] if words == ["-"] else [int(word) for word in words]

    def colours(row, name, many):
        found = items(row, name, many, lambda word: len(word) == 1 and "a" <= word <= "z")
        if len(found) < many:
            raise Refusal(row, len(rows[row - 1].split(" ")) + 1)
        return found

    told.append(count(1, "shafts"))
    told.append(count(2, "treadles"))
    told.append([int(word) for word in items(3, "thread", 60, lambda word: number(word, 0, told[0]))])
    told.append([tie(row) for row in range(4, 4 + told[1])])
    picks = items(4 + told[1], "tread", 60, lambda word: word == "-" or rises(word.split("+"), told[1]))
    told.append([[] if pick == "-" else [int(word) for word in pick.split("+")] for pick in picks])
    told.append(colours(5 + told[1], "warp", len(told[2])))
    told.append(colours(6 + told[1], "weft", len(told[4])))
    if len(rows) > 6 + told[1]:
        raise Refusal(7 + told[1], 0)
    return tuple(told)


class Written(unittest.TestCase):
    def test_a_draft(self):
        self.assertEqual(draft_text(Draft(*PARTS)), TEXT)

    def test_groups(self):
        draft = Draft(2, 2, [1, 2] * 30, [[1], [2]], [[1], [2], [1, 2]] * 20, ["a"] * 60, ["x"] * 59 + ["y"])
        self.assertEqual(draft_text(draft), "\n".join((
            "shafts 2", "treadles 2", "thread 30( 1 2 )", "tie 1", "tie 2", "tread 20( 1 2 1+2 )", "warp 60( a )",
            "weft 59( x ) y")))

    def test_the_least(self):
        self.assertEqual(draft_text(draft_of(1, 1, [0], [[]], [[]])),
                         "shafts 1\ntreadles 1\nthread 0\ntie -\ntread -\nwarp a\nweft b")

    def test_the_greatest(self):
        every = list(range(1, 17))
        draft = draft_of(16, 16, [16] * 60, [every] * 16, [every] * 60)
        words = [str(number) for number in every]
        self.assertEqual(draft_text(draft), "\n".join(
            ["shafts 16", "treadles 16", "thread 60( 16 )"] + ["tie " + " ".join(words)] * 16
            + ["tread 60( " + "+".join(words) + " )", "warp 60( a )", "weft 60( b )"]))

    def test_the_fewest_words(self):
        for draft in drawn_drafts(52, 40, most_ends=20, most_picks=20) + great_drafts():
            _, treadles, threading, _, treading, warp, weft = draft.told()
            rows = draft_text(draft).split("\n")
            picks = ["+".join(str(treadle) for treadle in pick) or "-" for pick in treading]
            for row, items in ((2, [str(shaft) for shaft in threading]), (treadles + 3, picks), (treadles + 4, warp),
                               (treadles + 5, weft)):
                self.assertEqual(len(rows[row].split(" ")) - 1, len(gathered(items)))

    def test_there_and_back(self):
        for draft in drawn_drafts(53, 150, most_ends=12, most_picks=12) + great_drafts():
            text = draft_text(draft)
            self.assertIs(type(text), str)
            read = read_draft(text)
            self.assertIs(type(read), Draft)
            self.assertEqual(read.told(), draft.told())
            self.assertEqual(reckoned(text), draft.told())
            self.assertEqual(draft_text(read), text)

    def test_the_bounds_there_and_back(self):
        for shafts in (1, 16):
            for treadles in (1, 16):
                for ends in (1, 60):
                    for picks in (1, 60):
                        draft = draft_of(shafts, treadles, [place % (shafts + 1) for place in range(ends)],
                                         [list(range(1, shafts + 1))] * treadles,
                                         [[1 + place % treadles] for place in range(picks)])
                        self.assertEqual(read_draft(draft_text(draft)).told(), draft.told())


class Read(unittest.TestCase):
    def refused(self, text, row, word):
        with self.assertRaises(BadRow, msg=repr(text)) as caught:
            read_draft(text)
        self.assertIs(type(caught.exception), BadRow)
        self.assertEqual((caught.exception.row, caught.exception.word), (row, word), repr(text))

    def row_refused(self, number, row, word):
        self.refused(with_row(number, row), number, word)

    def test_a_text(self):
        self.assertEqual(read_draft(TEXT).told(), PARTS)

    def test_groups_in_any_way(self):
        for number, place, row in (
            (3, 2, "thread 2( 1 0 )"),
            (3, 2, "thread 1 2( 1 ) 0"),
            (3, 2, "thread 2( 2( 3 ) )"),
            (7, 5, "warp 2( a ) 2( b )"),
            (7, 5, "warp 4( z )"),
            (7, 5, "warp 2( 2( q ) )"),
            (8, 6, "weft 3( q )"),
            (8, 6, "weft 2( q ) r"),
            (6, 4, "tread 3( 1+2 )"),
            (6, 4, "tread 2( - ) 2"),
            (6, 4, "tread 1+2 2( 1 )"),
        ):
            text = with_row(number, row)
            self.assertEqual(read_draft(text).told(), reckoned(text))
            self.assertEqual(len(read_draft(text).told()[place]), len(PARTS[place]))
        self.assertEqual(read_draft(with_row(3, "thread 2( 1 0 )")).told()[2], [1, 0, 1, 0])
        self.assertEqual(read_draft(with_row(6, "tread 2( - ) 2")).told()[4], [[], [], [2]])

    def test_the_empty_text(self):
        self.refused("", 1, 0)

    def test_things_that_are_no_texts(self):
        for thing in STRANGE + (0, 1, [TEXT], TEXT.split("\n"), Draft(*PARTS), Odd()):
            if not isinstance(thing, str):
                self.refused(thing, 1, 0)

    def test_a_row_that_lacks(self):
        rows = TEXT.split("\n")
        for many in range(1, 8):
            self.refused("\n".join(rows[:many]), many + 1, 0)

    def test_a_row_left_out(self):
        rows = TEXT.split("\n")
        for place in (0, 1, 2, 5, 6):
            self.refused("\n".join(rows[:place] + rows[place + 1:]), place + 1, 1)
        self.refused("\n".join(rows[:3] + rows[4:]), 5, 1)
        self.refused("\n".join(rows[:7]), 8, 0)

    def test_rows_without_words(self):
        for number, row in enumerate(TEXT.split("\n"), start=1):
            for bad in ("", " ", "  ", " " + row, row + " ", row.replace(" ", "  ", 1)):
                self.row_refused(number, bad, 0)

    def test_a_row_too_many(self):
        for row in ("", " ", "weft", "weft c d c", "tie -", "x", "shafts 3"):
            self.refused(TEXT + "\n" + row, 9, 0)
        self.refused(TEXT + "\n\n", 9, 0)
        self.refused(TEXT + "\n" * 1000, 9, 0)

    def test_line_ends_at_the_end(self):
        self.refused(TEXT + "\n", 9, 0)
        rows = TEXT.split("\n")
        for many in range(1, 8):
            self.refused("\n".join(rows[:many]) + "\n", many + 1, 0)
        self.refused("\n", 1, 0)
        self.refused("\n" + TEXT, 1, 0)

    def test_another_name(self):
        for number, row in enumerate(TEXT.split("\n"), start=1):
            name, rest = row.split(" ", 1)
            for other in [other for other in NAMES if other != name] + ["x", name + "s", name[:-1], name.upper(), "-", "1"]:
                self.row_refused(number, other + " " + rest, 1)
                self.row_refused(number, other, 1)
                self.row_refused(number, other + " ?", 1)

    def test_a_name_alone(self):
        for number, name in enumerate(NAMES, start=1):
            self.row_refused(number, name, 2)

    def test_numbers_of_shafts_and_treadles(self):
        for number, name in ((1, "shafts"), (2, "treadles")):
            for word in ("0", "17", "18", "100", "999", "1000", "01", "016", "-1", "x", "-", "1+2", "2(", ")", "1.", "+1"):
                self.row_refused(number, name + " " + word, 2)
                self.row_refused(number, name + " " + word + " 1", 2)
            for word in ("1", "x", "-", ")"):
                self.row_refused(number, name + " 3 " + word, 3)
            self.row_refused(number, name + " 3 3 3", 3)

    def test_each_number_of_shafts_and_treadles(self):
        for many in range(1, 17):
            ties = "tie -\n" * many
            text = f"shafts {many}\ntreadles {many}\nthread {many}\n{ties}tread {many}\nwarp a\nweft b"
            self.assertEqual(read_draft(text).told(), (many, many, [many], [[]] * many, [[many]], ["a"], ["b"]))
            self.refused(text.replace(f"thread {many}", f"thread {many + 1}"), 3, 2)
            self.refused(text.replace(f"tread {many}", f"tread {many + 1}"), many + 4, 2)

    def test_shafts_of_the_threading(self):
        for word in ("4", "5", "17", "01", "00", "-1", "-", "x", "1+2", "+", "1000", "3.", "1(", "61(", "(", "x("):
            self.row_refused(3, "thread " + word + " 1 1 1", 2)
            self.row_refused(3, "thread 1 1 " + word + " " + word, 4)
            self.row_refused(3, "thread 1 2( 1 " + word + " )", 5)

    def test_shafts_of_a_tie(self):
        for number in (4, 5):
            for word in ("0", "4", "17", "01", "x", "1+2", "2(", ")", "+", "--"):
                self.row_refused(number, "tie " + word, 2)
                self.row_refused(number, "tie 1 " + word, 3)
                self.row_refused(number, "tie 1 2 " + word + " 3", 4)

    def test_shafts_that_do_not_rise(self):
        for row, word in (("tie 1 1", 3), ("tie 2 1", 3), ("tie 3 1", 3), ("tie 1 2 2", 4), ("tie 1 3 2", 4),
                          ("tie 2 3 1", 4), ("tie 3 2 1", 3), ("tie 1 2 3 3", 5), ("tie 1 2 3 4", 5)):
            self.row_refused(4, row, word)
            self.row_refused(5, row, word)

    def test_nothing_tied(self):
        self.assertEqual(read_draft(with_row(4, "tie -")).told()[3], [[], []])
        for row, word in (("tie - 1", 3), ("tie - -", 3), ("tie - x", 3), ("tie - 1 2", 3), ("tie 1 -", 3),
                          ("tie 1 2 -", 4), ("tie 1 - 2", 3), ("tie 0 -", 2), ("tie -- 1", 2)):
            self.row_refused(4, row, word)

    def test_every_tie(self):
        for row, tie in (("1", [1]), ("2", [2]), ("3", [3]), ("1 2", [1, 2]), ("1 3", [1, 3]), ("2 3", [2, 3]),
                         ("1 2 3", [1, 2, 3])):
            self.assertEqual(read_draft(with_row(5, "tie " + row)).told()[3], [[1, 3], tie])

    def test_treadles_of_a_pick(self):
        for word in ("0", "3", "17", "x", "1+", "+1", "1++2", "+", "1+1", "2+1", "2+2", "1+2+2", "1+3", "01", "-+1", "1+-",
                     "--", "1-2", "0+1", "1+02", "1,2", "1("):
            self.row_refused(6, "tread " + word + " 1 1", 2)
            self.row_refused(6, "tread 1 - " + word, 4)
            self.row_refused(6, "tread 2( - " + word + " )", 4)
        for word, pick in (("-", []), ("1", [1]), ("2", [2]), ("1+2", [1, 2])):
            self.assertEqual(read_draft(with_row(6, "tread 1 2 " + word)).told()[4], [[1], [2], pick])

    def test_colours(self):
        for word in ("A", "1", "-", "ab", "aa", "+", "~", "2(x", "a)", "0"):
            self.row_refused(7, "warp " + word + " a a a", 2)
            self.row_refused(7, "warp a a a " + word, 5)
            self.row_refused(7, "warp a 2( a " + word + " )", 5)
            self.row_refused(8, "weft " + word + " a a", 2)
            self.row_refused(8, "weft a a " + word, 4)

    def test_colours_too_many(self):
        self.row_refused(7, "warp a b a z z", 6)
        self.row_refused(7, "warp a b a z x y", 6)
        self.row_refused(7, "warp a b a z )", 6)
        self.row_refused(7, "warp 5( a )", 4)
        self.row_refused(7, "warp 2( a b a )", 6)
        self.row_refused(7, "warp 2( 3( a ) )", 6)
        self.row_refused(7, "warp 2( a b a z z )", 7)
        self.row_refused(8, "weft c d c c", 5)
        self.row_refused(8, "weft 2( c d )", 5)
        self.row_refused(8, "weft 60( c )", 4)

    def test_colours_too_few(self):
        self.row_refused(7, "warp", 2)
        self.row_refused(7, "warp a", 3)
        self.row_refused(7, "warp a b a", 5)
        self.row_refused(7, "warp 3( a )", 5)
        self.row_refused(7, "warp a 2( a )", 6)
        self.row_refused(8, "weft c d", 4)
        self.row_refused(8, "weft 2( c )", 5)

    def test_sixty_one_ends_and_picks(self):
        for number, name in ((3, "thread"), (6, "tread")):
            self.row_refused(number, name + " 1" * 61, 62)
            self.row_refused(number, name + " 1" * 70, 62)
            self.row_refused(number, name + " 60( 1 ) 1", 5)
            self.row_refused(number, name + " 31( 1 1 )", 5)
            self.row_refused(number, name + " 2( 31( 1 ) )", 6)
            self.row_refused(number, name + " 2( 60( 1 ) )", 6)
            self.row_refused(number, name + " 1 60( 1 )", 5)
            self.row_refused(number, name + " 2( " + "1 " * 61 + ")", 63)

    def test_sixty_ends_and_picks(self):
        text = "shafts 1\ntreadles 1\nthread 2( 30( 1 ) )\ntie 1\ntread 59( 1 ) -\nwarp 60( a )\nweft 3( 20( b ) )"
        self.assertEqual(read_draft(text).told(),
                         (1, 1, [1] * 60, [[1]], [[1]] * 59 + [[]], ["a"] * 60, ["b"] * 60))

    def test_groups_left_open(self):
        for number, name, item in ((3, "thread", "1"), (6, "tread", "1+2"), (7, "warp", "a"), (8, "weft", "a")):
            self.row_refused(number, f"{name} 2(", 3)
            self.row_refused(number, f"{name} 2( {item}", 4)
            self.row_refused(number, f"{name} {item} 2( {item}", 5)
            self.row_refused(number, f"{name} 2( 2(", 4)
            self.row_refused(number, f"{name} 2( )", 3)
            self.row_refused(number, f"{name} )", 2)
            self.row_refused(number, f"{name} {item} )", 3)
            self.row_refused(number, f"{name} 2( {item} ) )", 5)
            self.row_refused(number, f"{name} 1( {item} )", 2)
            self.row_refused(number, f"{name} 61( {item} )", 2)

    def test_the_first_of_several(self):
        rows = TEXT.split("\n")
        bad = ["shafts 17", "treadles x", "thread 1 9", "tie 3 1", "tie", "tread 1+", "warp 1", "weft"]
        words = [2, 2, 3, 3, 2, 2, 2, 2]
        for number in range(1, 9):
            self.refused("\n".join(rows[:number - 1] + bad[number - 1:]), number, words[number - 1])
            self.refused("\n".join(rows[:number - 1] + bad[number - 1:] + [""]), number, words[number - 1])
            self.refused("\n".join(rows[:number - 1] + [bad[number - 1]]), number, words[number - 1])
        self.row_refused(3, "thread 9 x 2( )", 2)
        self.row_refused(4, "tie 2 1 x", 3)
        self.row_refused(7, "warp a ) x", 3)
        self.row_refused(1, "shaft 99 1", 1)

    def test_texts_changed_a_little(self):
        # Read, or refused at its row and word, just as by a reading of the tests' own.
        chance = random.Random(54)
        words = NAMES + ["1", "2", "3", "4", "0", "-", "1+2", "2+1", "2(", "3(", "60(", ")", "a", "b", "zz", "17", ""]
        for draft in drawn_drafts(55, 60):
            for _ in range(40):
                rows = [row.split(" ") for row in draft_text(draft).split("\n")]
                for _ in range(chance.choice((1, 1, 1, 2, 3))):
                    row = chance.choice(rows)
                    place = chance.randint(0, len(row))
                    row[place:place + chance.randint(0, 1)] = [chance.choice(words)] * chance.randint(0, 2)
                text = "\n".join(" ".join(row) for row in rows)
                try:
                    wanted = reckoned(text)
                except Refusal as refusal:
                    self.refused(text, *refusal.args)
                else:
                    self.assertEqual(read_draft(text).told(), wanted, text)

    def test_deep_groups(self):
        self.row_refused(3, "thread" + " 2(" * 6000, 6002)
        self.row_refused(3, "thread" + " 2(" * 4000 + " 1" + " )" * 3000, 4000 + 2 + 6)

    def test_long_words(self):
        self.row_refused(6, "tread " + "+".join(["1"] * 9000), 2)
        self.row_refused(1, "shafts " + "1" * 19000, 2)
