"""[50]: the colours seen from the front and from behind."""

import unittest

from loomwright.colours import seen, seen_behind
from loomwright.draft import Draft
from tests.makers import drawn_drafts, reckoned_grid


class Seen(unittest.TestCase):
    def test_some(self):
        draft = Draft(2, 2, [1, 2, 0], [[1], [1, 2]], [[1], [2], []], ["a", "b", "c"], ["x", "y", "z"])
        self.assertEqual(seen(draft), ["axx", "aby", "zzz"])
        self.assertEqual(seen_behind(draft), ["cbx", "cyy", "cba"])

    def test_one_crossing(self):
        for tie, front, behind in (([1], "a", "b"), ([], "b", "a")):
            draft = Draft(1, 1, [1], [tie], [[1]], ["a"], ["b"])
            self.assertEqual((seen(draft), seen_behind(draft)), ([front], [behind]))

    def test_each_crossing(self):
        for draft in drawn_drafts(50, 200) + drawn_drafts(
                51, 10, most_shafts=16, most_treadles=16, most_ends=60, most_picks=60):
            warp, weft = draft.told()[5:]
            front, behind = [], []
            for grid_row, thrown in zip(reckoned_grid(draft), weft):
                front.append("".join(colour if up else thrown for up, colour in zip(grid_row, warp)))
                behind.append("".join(thrown if up else colour for up, colour in zip(grid_row, warp))[::-1])
            self.assertEqual(seen(draft), front)
            self.assertEqual(seen_behind(draft), behind)
            for told in (seen(draft), seen_behind(draft)):
                self.assertIs(type(told), list)
                self.assertEqual({type(row) for row in told}, {str})
