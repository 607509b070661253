"""[53]: beside, below, told over, and what is refused."""

import itertools
import time
import unittest

from loomwright.cloth import Cloth
from loomwright.draft import Draft
from loomwright.errors import BadCloth, BadDraft
from loomwright.joins import below, beside, draft_told_over, told_over
from loomwright.weaving import woven
from tests.makers import cloth_drawn, crossings, draft_of, drawn_cloths, drawn_drafts


class Joined(unittest.TestCase):
    def refused(self, join, one, other):
        with self.assertRaises(BadCloth) as caught:
            join(one, other)
        self.assertIs(type(caught.exception), BadCloth)

    def test_by_hand(self):
        self.assertEqual(beside(cloth_drawn("#.", "##"), cloth_drawn("..#", "#..")).told(),
                         cloth_drawn("#...#", "###..").told())
        self.assertEqual(below(cloth_drawn("#."), cloth_drawn("##", "..")).told(), cloth_drawn("#.", "##", "..").told())

    def test_each_crossing(self):
        for one, other in itertools.product(drawn_cloths(56, 40, 5, 3), drawn_cloths(57, 40, 5, 3)):
            if one.picks() == other.picks():
                joined = beside(one, other)
                self.assertIs(type(joined), Cloth)
                self.assertEqual(crossings(joined),
                                 tuple(row + later for row, later in zip(crossings(one), crossings(other))))
            else:
                self.refused(beside, one, other)
            if one.ends() == other.ends():
                joined = below(one, other)
                self.assertIs(type(joined), Cloth)
                self.assertEqual(crossings(joined), crossings(one) + crossings(other))
            else:
                self.refused(below, one, other)

    def test_just_sixty_and_one_more(self):
        for ends in (1, 29, 30, 59):
            one, other, more = Cloth(ends, [1, 0]), Cloth(60 - ends, [1, 1]), Cloth(61 - ends, [1, 1])
            self.assertEqual(beside(one, other).told(), (60, [1 | 1 << ends, 1 << ends]))
            self.refused(beside, one, more)
            self.refused(beside, more, one)
        for picks in (1, 29, 30, 59):
            one, other, more = Cloth(2, [1] * picks), Cloth(2, [2] * (60 - picks)), Cloth(2, [2] * (61 - picks))
            self.assertEqual(below(one, other).told(), (2, [1] * picks + [2] * (60 - picks)))
            self.refused(below, one, more)
            self.refused(below, more, one)
        self.refused(beside, Cloth(60, [0]), Cloth(60, [0]))
        self.refused(below, Cloth(1, [0] * 60), Cloth(1, [0] * 60))

    def test_threads_that_are_not_as_many(self):
        self.refused(beside, Cloth(1, [0]), Cloth(1, [0, 0]))
        self.refused(beside, Cloth(1, [0, 0]), Cloth(1, [0]))
        self.refused(below, Cloth(1, [0]), Cloth(2, [0]))
        self.refused(below, Cloth(2, [0]), Cloth(1, [0]))
        self.assertEqual(beside(Cloth(1, [0]), Cloth(9, [0])).told(), (10, [0]))
        self.assertEqual(below(Cloth(1, [0]), Cloth(1, [0] * 9)).told(), (1, [0] * 10))


class ToldOver(unittest.TestCase):
    def refused(self, cloth, across, down):
        with self.assertRaises(BadCloth) as caught:
            told_over(cloth, across, down)
        self.assertIs(type(caught.exception), BadCloth)

    def test_by_hand(self):
        self.assertEqual(told_over(cloth_drawn("#.", ".."), 3, 2).told(),
                         cloth_drawn("#.#.#.", "......", "#.#.#.", "......").told())

    def test_each_crossing(self):
        for cloth in drawn_cloths(58, 60, 6, 6):
            for across, down in itertools.product((1, 2, 3, 10), repeat=2):
                over = told_over(cloth, across, down)
                self.assertIs(type(over), Cloth)
                self.assertEqual(crossings(over), tuple(row * across for row in crossings(cloth)) * down)

    def test_just_sixty_and_one_more(self):
        for ends, across in ((1, 60), (2, 30), (7, 8), (20, 3), (60, 1), (31, 1)):
            self.assertEqual(told_over(Cloth(ends, [0]), across, 1).told(), (ends * across, [0]))
            self.refused(Cloth(ends, [0]), across + 1, 1)
        for picks, down in ((1, 60), (2, 30), (7, 8), (20, 3), (60, 1), (31, 1)):
            self.assertEqual(told_over(Cloth(1, [1] * picks), 1, down).told(), (1, [1] * (picks * down)))
            self.refused(Cloth(1, [1] * picks), 1, down + 1)
        self.refused(Cloth(1, [1]), 61, 61)
        self.assertEqual(told_over(Cloth(1, [1]), 60, 60).told(), (60, [2 ** 60 - 1] * 60))

    def test_great_counts_at_once(self):
        began = time.perf_counter()
        great = 10 ** 30
        for across, down in ((great, 1), (1, great), (great, great), (great + 7, 60), (61, great)):
            self.refused(Cloth(1, [1]), across, down)
            self.refused(Cloth(60, [0] * 60), across, down)
            with self.assertRaises(BadDraft):
                draft_told_over(draft_of(1, 1, [1], [[1]], [[1]]), across, down)
        self.assertLess(time.perf_counter() - began, 1)


class DraftToldOver(unittest.TestCase):
    def refused(self, draft, across, down):
        with self.assertRaises(BadDraft) as caught:
            draft_told_over(draft, across, down)
        self.assertIs(type(caught.exception), BadDraft)

    def test_by_hand(self):
        draft = Draft(2, 2, [1, 2], [[1], []], [[1, 2], []], ["a", "b"], ["x", "y"])
        self.assertEqual(draft_told_over(draft, 2, 3).told(),
                         (2, 2, [1, 2] * 2, [[1], []], [[1, 2], []] * 3, ["a", "b"] * 2, ["x", "y"] * 3))

    def test_each_part(self):
        for draft in drawn_drafts(59, 80):
            shafts, treadles, threading, ties, treading, warp, weft = draft.told()
            for across, down in itertools.product((1, 2, 10), repeat=2):
                over = draft_told_over(draft, across, down)
                self.assertIs(type(over), Draft)
                self.assertEqual(over.told(), (shafts, treadles, threading * across, ties, treading * down,
                                               warp * across, weft * down))
                self.assertEqual(woven(over).told(), told_over(woven(draft), across, down).told())

    def test_just_sixty_and_one_more(self):
        for many, times in ((1, 60), (2, 30), (7, 8), (60, 1), (31, 1)):
            wide = draft_of(1, 1, [1] * many, [[1]], [[1]])
            self.assertEqual(draft_told_over(wide, times, 1).told()[2], [1] * (many * times))
            self.refused(wide, times + 1, 1)
            high = draft_of(1, 1, [1], [[1]], [[1]] * many)
            self.assertEqual(draft_told_over(high, 1, times).told()[4], [[1]] * (many * times))
            self.refused(high, 1, times + 1)
