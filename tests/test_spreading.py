"""[2]: rows of items told by words, spread; which word is refused."""

import itertools
import unittest

from loomwright.errors import BadWord
from loomwright.groups import spread


def anything(item):
    return True


def spread_row(row, most=60, fits=anything):
    return spread(row.split(" ") if row else [], most, fits)


def refused_place(words, most, fits):
    try:
        spread(words, most, fits)
    except BadWord as error:
        assert type(error) is BadWord
        return error.place
    return None


class Reader:
    """Reads a row of words by the grammar, group within group; another way than the program's own."""

    def __init__(self, words, most, fits):
        self.words, self.most, self.fits = words, most, fits
        self.at, self.count = 0, 0

    def refuse(self):
        raise BadWord(self.at + 1)

    def add(self, many):
        self.count += many
        if self.count > self.most:
            self.refuse()

    def within(self, depth):
        items = []
        while self.at < len(self.words):
            word = self.words[self.at]
            if word == ")":
                if depth == 0 or not items:
                    self.refuse()
                return items
            if word.endswith("("):
                if word not in ["%d(" % times for times in range(2, 61)]:
                    self.refuse()
                self.at += 1
                inner = self.within(depth + 1)
                items += inner * int(word[:-1])
                self.add(len(inner) * (int(word[:-1]) - 1))
            else:
                if not self.fits(word):
                    self.refuse()
                items.append(word)
                self.add(1)
            self.at += 1
        if depth > 0 or not self.words:
            self.refuse()
        return items


class Spread(unittest.TestCase):
    def refused(self, place, row, most=60, fits=anything):
        with self.assertRaises(BadWord, msg=row) as caught:
            spread_row(row, most, fits)
        self.assertEqual(caught.exception.place, place, row)

    def test_plain_items(self):
        for row in ("a", "a b c", "1 2 3 0", "1+2 - 3", "a a b"):
            self.assertEqual(spread_row(row), row.split(" "))

    def test_signs_within_items(self):
        # Only a word that is ")" or ends in "(" is no item.
        row = ["a)", "(a", "2()", "))", "()", "2(a", "-", ""]
        self.assertEqual(spread(row, 60, anything), row)

    def test_groups(self):
        for row, items in (
            ("2( a )", "aa"),
            ("3( a b )", "ababab"),
            ("x 2( a ) y", "xaay"),
            ("2( a ) 3( b )", "aabbb"),
            ("2( a ) a 2( a )", "aaaaa"),
        ):
            self.assertEqual(spread_row(row), list(items))

    def test_groups_within_groups(self):
        for row, items in (
            ("2( 3( a ) b )", "aaabaaab"),
            ("2( a 2( b 2( c ) ) d )", "abccbccdabccbccd"),
            ("2( 2( 2( a ) ) )", "aaaaaaaa"),
            ("2( 2( a ) 2( b ) ) c", "aabbaabbc"),
            ("2( a 3( b ) ) 2( 2( c ) )", "abbbabbbcccc"),
        ):
            self.assertEqual(spread_row(row), list(items))

    def test_each_number_of_times(self):
        for times in range(0, 130):
            row = str(times) + "( a )"
            if 2 <= times <= 60:
                self.assertEqual(spread_row(row), ["a"] * times)
            else:
                self.refused(1, row)

    def test_no_groups_sign(self):
        for word in ("(", "0(", "1(", "61(", "99(", "100(", "02(", "002(", "2((", "a(", "-2(", "+2(", "2 (", "2.(", "2)(",
                     "((", ")(", "1000("):
            for ahead, place in (([], 1), (["a"], 2), (["2(", "a"], 3), (["2("], 2)):
                self.assertEqual(refused_place(ahead + [word, "a", ")", ")"], 60, anything), place, word)

    def test_an_end_where_no_group_is_open(self):
        self.refused(1, ")")
        self.refused(1, ") a")
        self.refused(2, "a )")
        self.refused(4, "2( a ) )")
        self.refused(6, "2( 2( a ) ) )")
        self.refused(6, "2( a ) b c )")

    def test_an_end_right_behind_its_sign(self):
        self.refused(2, "2( )")
        self.refused(3, "a 2( ) b")
        self.refused(3, "2( 3( ) )")
        self.refused(4, "2( a 3( ) )")
        self.refused(5, "2( a ) 3( )")

    def test_an_end_behind_a_group(self):
        self.assertEqual(spread_row("2( 3( a ) )"), ["a"] * 6)

    def test_an_item_that_does_not_fit(self):
        letters = "abc".__contains__
        self.refused(1, "x", 60, letters)
        self.refused(2, "a x b", 60, letters)
        self.refused(3, "2( a x )", 60, letters)
        self.refused(5, "2( a ) b x", 60, letters)
        self.refused(2, "a x x", 60, letters)

    def test_no_word(self):
        self.assertEqual(refused_place([], 60, anything), 1)

    def test_an_open_group_at_the_end(self):
        self.refused(2, "2(")
        self.refused(3, "2( a")
        self.refused(3, "2( 3(")
        self.refused(5, "2( 3( a )")
        self.refused(5, "a b 2( c")

    def test_the_bound_of_plain_items(self):
        for most in (1, 2, 59, 60):
            self.assertEqual(spread(["a"] * most, most, anything), ["a"] * most)
            for more in (1, 2, 50):
                self.assertEqual(refused_place(["a"] * (most + more), most, anything), most + 1)

    def test_the_bound_by_a_group(self):
        self.assertEqual(spread_row("2( a b )", 4), list("abab"))
        self.refused(4, "2( a b )", 3)
        self.assertEqual(spread_row("60( a )", 60), ["a"] * 60)
        self.refused(3, "60( a )", 59)
        self.refused(4, "60( a ) b", 60)
        self.refused(4, "31( a b )", 60)
        self.assertEqual(spread_row("30( a b )", 60), list("ab") * 30)
        self.assertEqual(spread_row("a 3( b )", 4), list("abbb"))
        self.refused(4, "a 3( b )", 3)

    def test_the_bound_within_an_open_group(self):
        # Those of an open group count once as long as it is open.
        self.refused(5, "2( a a a a )", 3)
        self.refused(5, "2( a a a )", 3)
        self.refused(3, "2( a a", 1)
        self.refused(4, "2( a b c", 2)
        self.refused(4, "b 2( a a", 2)

    def test_the_bound_by_groups_within_groups(self):
        self.assertEqual(spread_row("2( 2( a ) )", 4), ["a"] * 4)
        self.refused(5, "2( 2( a ) )", 3)
        self.refused(4, "2( 2( a ) )", 1)
        self.refused(7, "2( b 2( a ) c )", 7)
        self.assertEqual(spread_row("2( b 2( a ) c )", 8), list("baacbaac"))
        self.refused(6, "2( b 2( a ) c )", 3)

    def test_bounds_somewhat_beyond(self):
        self.assertEqual(spread_row("2( 60( a ) ) b", 130), ["a"] * 120 + ["b"])
        self.assertEqual(refused_place(["a"], 0, anything), 1)

    def test_deep_groups(self):
        # As many as a text of 20,000 signs can hold; the end of the sixth one is too many.
        depth = 4000
        words = ["2("] * depth + ["a"] + [")"] * depth
        self.assertEqual(refused_place(words, 60, anything), depth + 1 + 6)
        self.assertEqual(refused_place(["2("] * depth, 60, anything), depth + 1)

    def test_the_first_of_several(self):
        letters = "abc".__contains__
        self.refused(1, ") ) x 1(", 60, letters)
        self.refused(2, "a x ) 1( 2(", 60, letters)
        self.refused(2, "a 1( x )", 60, letters)
        self.refused(3, "a b c x", 2, letters)
        self.refused(3, "a b x c", 2, letters)
        self.refused(3, "2( a x", 60, letters)
        self.refused(4, "2( a a ) x )", 3, letters)

    def test_every_small_row(self):
        fits = "ab".__contains__
        for length in range(0, 6):
            for words in itertools.product(("a", "b", "x", "2(", "3(", "1(", ")"), repeat=length):
                for most in (1, 3, 4, 60):
                    try:
                        wanted = Reader(words, most, fits).within(0)
                    except BadWord as error:
                        self.assertEqual(refused_place(list(words), most, fits), error.place, (words, most))
                    else:
                        self.assertEqual(spread(list(words), most, fits), wanted, (words, most))

    def test_fits_is_handed_items_alone(self):
        for row, handed in (
            ("a b c", "a b c"),
            ("2( a 3( b ) ) c", "a b c"),
            ("a ) b", "a"),
            ("a 1( b", "a"),
            ("a x( b", "a"),
            ("2( ) b", ""),
            ("2( a b", "a b"),
            ("( a", ""),
        ):
            asked = []

            def fits(item):
                asked.append(item)
                return True

            refused_place(row.split(" "), 60, fits)
            self.assertEqual(asked, handed.split(" ") if handed else [], row)

    def test_nothing_is_asked_behind_a_refusal(self):
        asked = []

        def fits(item):
            asked.append(item)
            return item != "x"

        self.assertEqual(refused_place(["a", "x", "b"], 60, fits), 2)
        self.assertEqual(asked, ["a", "x"])
