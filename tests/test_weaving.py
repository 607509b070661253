"""[23]: what is lifted, and what is woven."""

import unittest

from loomwright.cloth import Cloth
from loomwright.draft import Draft
from loomwright.weaving import lifts_of, woven
from tests.makers import crossings, draft_of, drawn_drafts, reckoned_grid


class Lifts(unittest.TestCase):
    def test_of_no_treadle_of_one_of_several(self):
        draft = draft_of(4, 3, [1], [[1, 3], [], [3, 4]], [[], [1], [2], [3], [1, 2], [1, 3], [2, 3], [1, 2, 3]])
        self.assertEqual(lifts_of(draft), [0, 0b0101, 0, 0b1100, 0b0101, 0b1101, 0b1100, 0b1101])

    def test_the_bounds(self):
        every = list(range(1, 17))
        draft = draft_of(16, 16, [0], [[shaft] for shaft in every], [[1], [16], every, []] * 15)
        self.assertEqual(lifts_of(draft), [1, 2 ** 15, 2 ** 16 - 1, 0] * 15)

    def test_each_lift(self):
        for draft in drawn_drafts(31, 300) + drawn_drafts(
                32, 20, most_shafts=16, most_treadles=16, most_ends=60, most_picks=60):
            shafts, _, _, ties, treading, _, _ = draft.told()
            wanted = [sum(2 ** (shaft - 1) for shaft in range(1, shafts + 1)
                          if any(shaft in ties[treadle - 1] for treadle in pick)) for pick in treading]
            self.assertEqual(lifts_of(draft), wanted)
            self.assertIs(type(lifts_of(draft)), list)


class Woven(unittest.TestCase):
    def test_some(self):
        draft = Draft(2, 2, [1, 2, 1, 2], [[1], [2]], [[1], [2], [1, 2], []], list("abab"), list("cdcd"))
        self.assertEqual(woven(draft).told(), (4, [0b0101, 0b1010, 0b1111, 0]))

    def test_ends_through_no_shaft(self):
        draft = draft_of(2, 1, [0, 1, 0, 2], [[1, 2]], [[1], []])
        self.assertEqual(woven(draft).told(), (4, [0b1010, 0]))
        self.assertEqual(woven(draft_of(16, 1, [0] * 60, [list(range(1, 17))], [[1]])).told(), (60, [0]))

    def test_shafts_without_ends(self):
        self.assertEqual(woven(draft_of(3, 1, [2], [[1, 3]], [[1]])).told(), (1, [0]))

    def test_each_crossing(self):
        for draft in drawn_drafts(33, 300) + drawn_drafts(
                34, 20, most_shafts=16, most_treadles=16, most_ends=60, most_picks=60):
            cloth = woven(draft)
            self.assertIs(type(cloth), Cloth)
            self.assertEqual((cloth.ends(), cloth.picks()), (draft.ends(), draft.picks()))
            self.assertEqual(crossings(cloth), reckoned_grid(draft))

    def test_colours_do_not_matter(self):
        parts = (2, 2, [1, 2, 0], [[1], [1, 2]], [[1], [2]])
        one = Draft(*parts, ["a", "b", "c"], ["d", "e"])
        other = Draft(*parts, ["z", "z", "z"], ["z", "z"])
        self.assertEqual(woven(one).told(), woven(other).told())

    def test_the_greatest(self):
        every = list(range(1, 17))
        draft = draft_of(16, 16, ([0] + every) * 3 + [1] * 9, [every] * 16, [every] * 60)
        self.assertEqual(crossings(woven(draft)), reckoned_grid(draft))
