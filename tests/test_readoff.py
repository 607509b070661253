"""[30], [31], [32]: masks numbered by their kinds, drafts read off, the ends and picks that are shown."""

import itertools
import random
import unittest

from loomwright.cloth import Cloth
from loomwright.draft import Draft
from loomwright.errors import TooMany
from loomwright.readoff import fewest_shown, kind_numbers, kinds_of, read_off
from loomwright.weaving import woven
from tests.makers import cloth_drawn, cloth_of, crossings, drawn_cloths, drawn_drafts, small_cloths


def reckoned_numbers(lines):
    """The kinds' numbers of lines of truths, 0 of one without any that is true."""
    kinds = []
    for line in lines:
        if any(line) and line not in kinds:
            kinds.append(line)
    return [kinds.index(line) + 1 if any(line) else 0 for line in lines]


def reckoned_parts(cloth):
    grid = crossings(cloth)
    ends = reckoned_numbers(list(zip(*grid)))
    picks = reckoned_numbers(list(grid))
    shafts, treadles = max(1, max(ends)), max(1, max(picks))
    ties = [[shaft for shaft in range(1, shafts + 1)
             if any(grid[pick][end] for pick in range(len(picks)) for end in range(len(ends))
                    if picks[pick] == treadle and ends[end] == shaft)] for treadle in range(1, treadles + 1)]
    return (shafts, treadles, ends, ties, [[treadle] if treadle else [] for treadle in picks],
            ["a"] * len(ends), ["b"] * len(picks))


def diagonal(ends, picks):
    """Each end up at its own pick alone, and where picks or ends run out nowhere."""
    return cloth_of([[end == pick for end in range(ends)] for pick in range(picks)])


class Kinds(unittest.TestCase):
    def test_some(self):
        for masks, numbers, kinds in (
            ([], [], []),
            ([0], [0], []),
            ([0, 0, 0], [0, 0, 0], []),
            ([5], [1], [5]),
            ([5, 5], [1, 1], [5]),
            ([0, 9, 0, 4, 9, 0, 4, 1], [0, 1, 0, 2, 1, 0, 2, 3], [9, 4, 1]),
            ([3, 2, 1, 2, 3], [1, 2, 3, 2, 1], [3, 2, 1]),
            ([2 ** 60 - 1, 1, 2 ** 60 - 1], [1, 2, 1], [2 ** 60 - 1, 1]),
        ):
            self.assertEqual(kind_numbers(masks), numbers)
            self.assertEqual(kinds_of(masks), kinds)
            self.assertIs(type(kind_numbers(masks)), list)
            self.assertIs(type(kinds_of(masks)), list)

    def test_every_small_list(self):
        for length in range(0, 6):
            for masks in itertools.product(range(4), repeat=length):
                lines = [tuple(bit == "1" for bit in format(mask, "02b")) for mask in masks]
                self.assertEqual(kind_numbers(list(masks)), reckoned_numbers(lines))
                unlike = [mask for place, mask in enumerate(masks) if mask and mask not in masks[:place]]
                self.assertEqual(kinds_of(list(masks)), unlike)

    def test_many(self):
        masks = list(range(200, 0, -1)) * 2
        self.assertEqual(kind_numbers(masks), list(range(1, 201)) * 2)
        self.assertEqual(kinds_of(masks), list(range(200, 0, -1)))


class ReadOff(unittest.TestCase):
    def refused(self, cloth, what, many):
        with self.assertRaises(TooMany) as caught:
            read_off(cloth)
        self.assertIs(type(caught.exception), TooMany)
        self.assertEqual((caught.exception.what, caught.exception.many), (what, many))

    def test_by_hand(self):
        self.assertEqual(read_off(cloth_drawn("#.#.", ".#.#")).told(),
                         (2, 2, [1, 2, 1, 2], [[1], [2]], [[1], [2]], ["a"] * 4, ["b"] * 2))
        self.assertEqual(read_off(cloth_drawn("....", ".##.", "..#.", ".##.", "#...")).told(),
                         (3, 3, [1, 2, 3, 0], [[2, 3], [3], [1]], [[], [1], [2], [1], [3]], ["a"] * 4, ["b"] * 5))
        self.assertEqual(read_off(cloth_drawn(".#", "##", ".#")).told(),
                         (2, 2, [1, 2], [[2], [1, 2]], [[1], [2], [1]], ["a"] * 2, ["b"] * 3))
        self.assertEqual(read_off(cloth_drawn("###", "###")).told(),
                         (1, 1, [1, 1, 1], [[1]], [[1], [1]], ["a"] * 3, ["b"] * 2))

    def test_nothing_up(self):
        for ends in (1, 2, 60):
            for picks in (1, 3, 60):
                self.assertEqual(read_off(Cloth(ends, [0] * picks)).told(),
                                 (1, 1, [0] * ends, [[]], [[]] * picks, ["a"] * ends, ["b"] * picks))

    def test_number_by_number(self):
        for cloth in list(small_cloths(4, 4, 9)) + drawn_cloths(31, 200, 8, 8):
            draft = read_off(cloth)
            self.assertIs(type(draft), Draft)
            self.assertEqual(draft.told(), reckoned_parts(cloth))

    def test_woven_it_is_the_cloth(self):
        great = [woven(draft) for draft in drawn_drafts(32, 20, most_shafts=5, most_ends=60, most_picks=60)]
        for cloth in list(small_cloths(4, 4, 9)) + drawn_cloths(33, 200, 8, 8) + great:
            self.assertEqual(woven(read_off(cloth)).told(), cloth.told())

    def test_sixteen_kinds(self):
        for ends, picks in ((16, 16), (60, 16), (16, 60)):
            cloth = diagonal(ends, picks)
            draft = read_off(cloth)
            self.assertEqual(draft.told(), reckoned_parts(cloth))
            self.assertEqual(draft.told()[:2], (16, 16))
            self.assertEqual(woven(draft).told(), cloth.told())

    def test_seventeen_columns(self):
        # Of five picks, so that there aren't as many kinds of rows.
        grid = list(zip(*[[number >> bit & 1 for bit in range(5)] for number in range(1, 18)]))
        self.refused(cloth_of(grid), "shafts", 17)
        grid = list(zip(*[[number >> bit & 1 for bit in range(5)] for number in range(0, 32)]))
        self.refused(cloth_of(grid), "shafts", 31)

    def test_seventeen_rows(self):
        self.refused(Cloth(5, list(range(1, 18))), "treadles", 17)
        self.refused(Cloth(5, list(range(0, 32)) * 1), "treadles", 31)
        self.assertEqual(read_off(Cloth(5, list(range(0, 17)))).told()[1], 16)

    def test_seventeen_of_both(self):
        self.refused(diagonal(17, 17), "shafts", 17)
        self.refused(diagonal(60, 60), "shafts", 60)
        self.refused(diagonal(17, 60), "shafts", 17)
        # Eighteen kinds of columns and seventeen of rows, and the other way round.
        grid = [[end == pick or end == 17 and pick < 3 for end in range(18)] for pick in range(17)]
        self.refused(cloth_of(grid), "shafts", 18)
        self.refused(cloth_of(list(zip(*grid))), "shafts", 17)


class Shown(unittest.TestCase):
    def test_by_hand(self):
        self.assertEqual(fewest_shown(cloth_drawn("....", ".##.", "..#.", ".##.", "#...")), ([1, 2, 3], [2, 3, 5]))
        self.assertEqual(fewest_shown(cloth_drawn("#.#.", ".#.#")), ([1, 2], [1, 2]))
        self.assertEqual(fewest_shown(cloth_drawn("..#.", "..##")), ([3, 4], [1, 2]))

    def test_nothing_up(self):
        self.assertEqual(fewest_shown(Cloth(3, [0, 0])), ([], []))

    def test_the_first_of_each_number(self):
        chance = random.Random(34)
        great = [Cloth(60, [chance.choice((0, 5, 2 ** 59, 77, 2 ** 60 - 1)) for _ in range(60)]) for _ in range(10)]
        for cloth in list(small_cloths(4, 4, 9)) + drawn_cloths(35, 100, 60, 60) + great:
            told = fewest_shown(cloth)
            self.assertEqual([type(told)] + [type(part) for part in told], [tuple, list, list])
            grid = crossings(cloth)
            for numbers, lines in zip(told, (list(zip(*grid)), list(grid))):
                kinds = reckoned_numbers(lines)
                self.assertEqual(numbers, [kinds.index(kind) + 1 for kind in range(1, max(kinds) + 1)])

    def test_of_cloths_that_are_refused(self):
        self.assertEqual(fewest_shown(diagonal(60, 60)), (list(range(1, 61)), list(range(1, 61))))
        self.assertEqual(fewest_shown(Cloth(5, list(range(0, 32)))), ([1, 2, 3, 4, 5], list(range(2, 33))))

    def test_as_many_as_the_draft_has(self):
        for cloth in drawn_cloths(36, 100, 8, 8):
            shafts, treadles = read_off(cloth).told()[:2]
            ends, picks = fewest_shown(cloth)
            self.assertEqual((max(1, len(ends)), max(1, len(picks))), (shafts, treadles))
