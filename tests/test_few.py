"""[40], [41], [42]: the fewest ties, what is trodden of a lift, the draft with the fewest treadles."""

import itertools
import random
import time
import unittest

from loomwright.cloth import Cloth
from loomwright.draft import Draft
from loomwright.errors import TooMany
from loomwright.few import few_ties, fewest_treadles, trodden_of
from loomwright.readoff import read_off
from loomwright.weaving import lifts_of, woven
from tests.makers import cloth_of, cloths_sized, crossings, drawn_drafts


def all_unions(ties):
    unions = {0}
    for tie in ties:
        unions |= {union | tie for union in unions}
    return unions


# All sets of up to four masks, fewest first, the least ones first; four ties always do.
SETS = [(list(ties), all_unions(ties)) for many in range(5) for ties in itertools.combinations(range(16), many)]


def searched_ties(lifts):
    wanted = set(lifts)
    return next(ties for ties, unions in SETS if wanted <= unions)


class FewTies(unittest.TestCase):
    def test_some(self):
        for lifts, ties in (
            ([], []),
            ([0], []),
            ([0, 0], []),
            ([5], [5]),
            ([5, 0, 5], [5]),
            ([15, 1], [1, 14]),
            ([1, 2, 3], [1, 2]),
            ([3, 5, 6], [1, 2, 4]),
            ([7, 3], [3, 4]),
            ([1, 2, 4, 8], [1, 2, 4, 8]),
            (list(range(16)), [1, 2, 4, 8]),
            ([3, 12, 15], [3, 12]),
        ):
            self.assertEqual(few_ties(lifts), ties)
            self.assertIs(type(few_ties(lifts)), list)

    def test_every_small_list(self):
        for many in range(5):
            for lifts in itertools.combinations(range(16), many):
                self.assertEqual(few_ties(list(lifts)), searched_ties(lifts), lifts)

    def test_in_any_order_and_again(self):
        for many in range(4):
            for lifts in itertools.product((0, 1, 3, 5, 6, 10, 12, 15), repeat=many):
                self.assertEqual(few_ties(list(lifts)), searched_ties(lifts), lifts)

    def test_greater_lists(self):
        chance = random.Random(40)
        for _ in range(1500):
            lifts = [chance.randrange(16) for _ in range(chance.randint(4, 60))]
            self.assertEqual(few_ties(lifts), searched_ties(lifts), lifts)
        for many in range(5, 16):
            for _ in range(60):
                lifts = chance.sample(range(16), many)
                self.assertEqual(few_ties(lifts), searched_ties(lifts), lifts)

    def test_told_soon(self):
        chance = random.Random(41)
        began = time.perf_counter()
        for _ in range(300):
            few_ties([chance.randrange(16) for _ in range(60)])
            few_ties(chance.sample(range(16), 5))
        self.assertLess(time.perf_counter() - began, 10)

    def test_somewhat_beyond(self):
        self.assertEqual(few_ties([16, 17, 31]), [1, 14, 16])
        self.assertEqual(few_ties([1] * 100), [1])


class Trodden(unittest.TestCase):
    def test_some(self):
        for lift, ties, numbers in (
            (0, [], []),
            (15, [], []),
            (0, [1, 2], []),
            (0, [0], [1]),
            (0, [1, 0, 2, 0], [2, 4]),
            (5, [1, 2, 4, 8], [1, 3]),
            (5, [8, 4, 2, 1], [2, 4]),
            (5, [5, 5, 7, 5], [1, 2, 4]),
            (5, [0, 5, 0], [1, 2, 3]),
            (15, [15, 3, 0, 8], [1, 2, 3, 4]),
            (7, [8, 15, 9], []),
        ):
            self.assertEqual(trodden_of(lift, ties), numbers)
            self.assertIs(type(trodden_of(lift, ties)), list)

    def test_each_lift_and_tie(self):
        ties = list(range(15, -1, -1)) * 2
        for lift in range(16):
            wanted = [place + 1 for place, tie in enumerate(ties)
                      if all(lift >> bit & 1 for bit in range(4) if tie >> bit & 1)]
            self.assertEqual(trodden_of(lift, ties), wanted)


class FewestTreadles(unittest.TestCase):
    def refused(self, cloth, many):
        with self.assertRaises(TooMany) as caught:
            fewest_treadles(cloth)
        self.assertIs(type(caught.exception), TooMany)
        self.assertEqual((caught.exception.what, caught.exception.many), ("shafts", many))

    def right(self, cloth):
        draft = fewest_treadles(cloth)
        self.assertIs(type(draft), Draft)
        shafts, treadles, threading, ties, treading, warp, weft = draft.told()
        # Each pick's lift, by one end of each shaft.
        grid = crossings(cloth)
        lifts = [sum(2 ** (shaft - 1) for shaft in range(1, shafts + 1)
                     if shaft in threading and row[threading.index(shaft)]) for row in grid]
        masks = searched_ties(lifts)
        self.assertEqual((shafts, threading), (read_off(cloth).told()[0], read_off(cloth).told()[2]))
        self.assertEqual([sum(2 ** (shaft - 1) for shaft in tie) for tie in ties], masks or [0])
        self.assertEqual(treadles, max(1, len(masks)))
        self.assertEqual(treading, [[place + 1 for place, mask in enumerate(masks) if mask & lift == mask]
                                    for lift in lifts])
        self.assertEqual((warp, weft), (["a"] * cloth.ends(), ["b"] * cloth.picks()))
        self.assertEqual(lifts_of(draft), lifts)
        self.assertEqual(woven(draft).told(), cloth.told())

    def test_by_hand(self):
        self.assertEqual(fewest_treadles(cloth_of([[1, 0, 0], [0, 1, 0], [1, 1, 0], [0, 0, 0]])).told(),
                         (2, 2, [1, 2, 0], [[1], [2]], [[1], [2], [1, 2], []], ["a"] * 3, ["b"] * 4))
        # Shaft 1 lifted alone and all four: no treadle but that of the first lift lies within it.
        self.assertEqual(fewest_treadles(Cloth(4, [0b0001, 0b1111, 0b0001, 0b0111, 0b0011])).told(),
                         (4, 4, [1, 2, 3, 4], [[1], [2], [3], [4]],
                          [[1], [1, 2, 3, 4], [1], [1, 2, 3], [1, 2]], ["a"] * 4, ["b"] * 5))

    def test_nothing_up(self):
        for ends in (1, 5, 60):
            for picks in (1, 4, 60):
                self.assertEqual(fewest_treadles(Cloth(ends, [0] * picks)).told(),
                                 (1, 1, [0] * ends, [[]], [[]] * picks, ["a"] * ends, ["b"] * picks))

    def test_small_cloths(self):
        for ends in range(1, 5):
            for picks in range(1, 4):
                if ends * picks <= 9:
                    for cloth in cloths_sized(ends, picks):
                        self.right(cloth)

    def test_great_cloths(self):
        for draft in drawn_drafts(42, 60, most_shafts=4, most_treadles=6, most_ends=60, most_picks=60):
            self.right(woven(draft))
        self.right(Cloth(4, list(range(16))))
        self.right(Cloth(4, (list(range(16)) * 4)[:60]))

    def test_more_than_sixteen_lifts_do_not_matter(self):
        # Four kinds of columns make fifteen kinds of rows at the most.
        self.assertEqual(fewest_treadles(Cloth(4, list(range(16)))).told()[1], 4)

    def test_five_columns(self):
        self.refused(Cloth(5, [1, 2, 4, 8, 16]), 5)
        self.refused(Cloth(6, [1, 2, 4, 8, 16]), 5)
        self.refused(cloth_of([[1, 1, 1, 0, 0, 1], [1, 0, 1, 1, 0, 1], [1, 0, 0, 1, 1, 0]]), 5)

    def test_more_than_sixteen_columns(self):
        self.refused(Cloth(17, [1 << place for place in range(17)]), 17)
        self.refused(Cloth(60, [1 << place for place in range(60)]), 60)
        self.refused(Cloth(5, list(range(32))), 5)
