"""[3]: gathering, with as few words as can be, the same each time."""

import itertools
import os
import random
import subprocess
import sys
import time
import unittest

from loomwright.groups import gathered, spread

TOP = os.path.dirname(os.path.dirname(os.path.abspath(__file__)))


def all_fewest(letters, longest, most_words):
    """The fewest words of each row of items, by telling all rows of words, those of fewer words first.

    A row of items is a text here, each sign an item. Rows of words that need more than most_words are left out.
    """
    fewest = {}
    rows = {0: [""]}
    firsts = {1: list(letters), 2: []}
    for count in range(1, most_words + 1):
        if count > 2:
            firsts[count] = sorted({
                inner * times
                for inner in rows[count - 2] if inner
                for times in range(2, min(60, longest // len(inner)) + 1)
            })
        made = {
            first + rest
            for ahead in range(1, count + 1)
            for first in firsts[ahead]
            for rest in rows[count - ahead]
            if len(first) + len(rest) <= longest
        }
        # A row that was told with fewer words is of no use any more, wherever it stands.
        rows[count] = sorted(made - fewest.keys())
        firsts[count] = [first for first in firsts[count] if first not in fewest]
        for row in rows[count]:
            fewest[row] = count
    return fewest


class Gathered(unittest.TestCase):
    def tells(self, items):
        words = gathered(items)
        self.assertIs(type(words), list)
        self.assertEqual(spread(words, len(items), lambda item: item in items), items)
        return words

    def test_some_rows(self):
        for items, words in (
            ("a", "a"),
            ("ab", "a b"),
            ("aa", "a a"),
            ("aaaa", "4( a )"),
            ("ababab", "3( a b )"),
            ("xaaaay", "x 4( a ) y"),
            ("aaaabaaaab", "2( 4( a ) b )"),
        ):
            self.assertEqual(gathered(list(items)), words.split(" "))

    def test_items_of_several_signs(self):
        self.assertEqual(gathered(["1+2", "-"] * 4), ["4(", "1+2", "-", ")"])
        self.assertEqual(gathered(["12", "1"] * 4 + ["2"]), ["4(", "12", "1", ")", "2"])
        # The same signs in a row, but unlike items.
        self.assertEqual(len(gathered(["1", "11", "11", "1", "111"])), 5)

    def test_signs_within_items(self):
        self.assertEqual(gathered(["a)", "(a"] * 4), ["4(", "a)", "(a", ")"])

    def test_every_small_row(self):
        fewest = all_fewest("ab", 12, 12)
        for length in range(1, 13):
            for items in itertools.product("ab", repeat=length):
                self.assertEqual(len(self.tells(list(items))), fewest["".join(items)], items)

    def test_every_small_row_of_three_items(self):
        fewest = all_fewest("abc", 7, 7)
        for length in range(1, 8):
            for items in itertools.product("abc", repeat=length):
                self.assertEqual(len(self.tells(list(items))), fewest["".join(items)], items)

    def test_long_rows_of_few_words(self):
        fewest = all_fewest("ab", 60, 7)
        rows = sorted(fewest)
        for row in random.Random(7).sample(rows, 300) + [row for row in rows if len(row) == 60][::101]:
            self.assertEqual(len(self.tells(list(row))), fewest[row], row)

    def test_groups_within_groups(self):
        for row, most in (
            ("aaaab" * 2, 6),
            ("aaaab" * 12, 6),
            ("aaaabccccd" * 6, 10),
            (("aaaab" * 3 + "c") * 3, 9),
            ((("a" * 5 + "b") * 3 + "c") * 3 + "d", 10),
            ("a" * 30 + "b" * 30, 6),
        ):
            words = self.tells(list(row))
            self.assertEqual(len(words), most, words)

    def test_the_bounds_of_times(self):
        self.assertEqual(gathered(["a"] * 60), ["60(", "a", ")"])
        self.assertEqual(gathered(["a"] * 59), ["59(", "a", ")"])
        self.assertEqual(len(gathered(["a"] * 2)), 2)
        self.assertEqual(gathered(list("abcd" * 2)), ["2(", "a", "b", "c", "d", ")"])

    def test_somewhat_beyond_the_bound(self):
        for length, most in ((61, 4), (62, 4), (63, 5), (64, 4), (120, 4)):
            self.assertLessEqual(len(self.tells(["a"] * length)), most)
        self.assertEqual(gathered([]), [])

    def test_the_same_each_time(self):
        rows = [list("aabb" * 3 + "ab"), ["a", "a", "a"], list("aaabbb" * 5), list("abaab" * 7)]
        told = [gathered(list(row)) for row in rows]
        self.assertEqual([gathered(list(row)) for row in reversed(rows)], told[::-1])
        program = f"from loomwright.groups import gathered; print([gathered(row) for row in {rows!r}])"
        for seed in ("0", "1", "2"):
            environment = dict(os.environ, PYTHONHASHSEED=seed, PYTHONDONTWRITEBYTECODE="1")
            answer = subprocess.run([sys.executable, "-c", program], cwd=TOP, env=environment,
                                    capture_output=True, text=True, check=True)
            self.assertEqual(answer.stdout.strip(), repr(told))

    def test_sixty_items_are_gathered_soon(self):
        chance = random.Random(60)
        rows = [["a"] * 60, [str(number) for number in range(60)], list("ab" * 30), list("aaaabccccd" * 6)]
        rows += [[chance.choice("ab") for _ in range(60)] for _ in range(5)]
        for row in rows:
            began = time.perf_counter()
            self.tells(row)
            self.assertLess(time.perf_counter() - began, 3)
