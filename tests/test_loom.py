"""[90], [92]: a loom, pick by pick, with one fault or none."""

import unittest

from loomwright.cloth import Cloth
from loomwright.errors import BadDraft, OutOfPlace
from loomwright.faults import all_faults
from loomwright.loom import Loom, woven_with
from loomwright.weaving import woven
from tests.makers import STRANGE, Odd, crossings, draft_of, drawn_drafts
from tests.test_faults import reckoned_with


def masks(grid):
    return [sum(2 ** place for place, up in enumerate(row) if up) for row in grid]


class Steps(unittest.TestCase):
    def test_by_hand(self):
        draft = draft_of(2, 2, [1, 2, 0, 1], [[1], [1, 2]], [[1], [], [2]])
        for fault, rows in (
            (None, [0b1001, 0, 0b1011]),
            (("up", 1), [0b1001, 0b1001, 0b1011]),
            (("up", 2), [0b1011, 0b0010, 0b1011]),
            (("down", 1), [0, 0, 0b0010]),
            (("down", 2), [0b1001, 0, 0b1001]),
            (("broken", 1), [0b1000, 0, 0b1010]),
            (("broken", 3), [0b1001, 0, 0b1011]),
            (("loose", 1, 1), [0, 0, 0b1011]),
            (("loose", 2, 1), [0b1001, 0, 0b0010]),
            (("tied", 1, 2), [0b1011, 0, 0b1011]),
            (("drawn", 1, 0), [0b1000, 0, 0b1010]),
            (("drawn", 1, 2), [0b1000, 0, 0b1011]),
            (("drawn", 3, 2), [0b1001, 0, 0b1111]),
        ):
            loom = Loom(draft, fault)
            self.assertEqual([loom.step() for _ in range(3)], rows, fault)
            self.assertIsNone(loom.step())
            self.assertEqual(woven_with(draft, fault).told(), (4, rows), fault)

    def test_each_step_with_each_fault(self):
        for draft in drawn_drafts(97, 40):
            for fault in [None] + all_faults(draft):
                rows = masks(reckoned_with(draft, fault))
                loom = Loom(draft, fault)
                for count, row in enumerate(rows, start=1):
                    self.assertEqual(loom.step(), row, (draft.told(), fault))
                    self.assertEqual(loom.pick(), count)
                    self.assertEqual(loom.cloth().told(), (draft.ends(), rows[:count]))
                self.assertIsNone(loom.step())
                self.assertEqual(woven_with(draft, fault).told(), (draft.ends(), rows))

    def test_without_a_fault_it_is_what_is_woven(self):
        for draft in drawn_drafts(98, 10, most_shafts=16, most_treadles=16, most_ends=60, most_picks=60):
            self.assertEqual(woven_with(draft, None).told(), woven(draft).told())
            loom = Loom(draft)
            self.assertEqual([loom.step() for _ in range(draft.picks())], woven(draft).told()[1])

    def test_great_drafts_with_faults(self):
        for draft in drawn_drafts(99, 2, most_shafts=16, most_treadles=16, most_ends=60, most_picks=60):
            for fault in all_faults(draft)[::29]:
                self.assertEqual(crossings(woven_with(draft, fault)), reckoned_with(draft, fault))

    def test_behind_the_last(self):
        loom = Loom(draft_of(1, 1, [1], [[1]], [[1], []]))
        self.assertEqual([loom.step(), loom.step()], [1, 0])
        for _ in range(3):
            self.assertIsNone(loom.step())
            self.assertEqual(loom.pick(), 2)
            self.assertEqual(loom.cloth().told(), (1, [1, 0]))

    def test_pick(self):
        loom = Loom(draft_of(1, 1, [1], [[1]], [[1], []]))
        self.assertEqual(loom.pick(), 0)
        loom.step()
        self.assertEqual(loom.pick(), 1)
        self.assertEqual(loom.pick(), 1)

    def test_ahead_of_the_first_step(self):
        loom = Loom(draft_of(1, 1, [1], [[1]], [[1], []]))
        for _ in range(2):
            with self.assertRaises(OutOfPlace) as caught:
                loom.cloth()
            self.assertIs(type(caught.exception), OutOfPlace)
        self.assertEqual(loom.pick(), 0)
        self.assertEqual(loom.step(), 1)
        self.assertEqual(loom.cloth().told(), (1, [1]))
        self.assertIs(type(loom.cloth()), Cloth)
        self.assertIsNot(loom.cloth(), loom.cloth())

    def test_a_cloth_part_way_stays(self):
        loom = Loom(draft_of(1, 1, [1], [[1]], [[1], [], [1]]))
        loom.step()
        part = loom.cloth()
        loom.step()
        self.assertEqual(part.told(), (1, [1]))
        self.assertEqual(loom.cloth().told(), (1, [1, 0]))

    def test_two_looms_of_one_draft(self):
        draft = draft_of(1, 1, [1], [[1]], [[1], [], [1]])
        one, other, broken = Loom(draft), Loom(draft), Loom(draft, ("broken", 1))
        self.assertEqual([one.step(), one.step()], [1, 0])
        self.assertEqual((other.pick(), broken.pick()), (0, 0))
        self.assertEqual([other.step(), broken.step()], [1, 0])
        self.assertEqual((one.pick(), other.pick(), broken.pick()), (2, 1, 1))
        self.assertEqual(one.step(), 1)
        self.assertEqual(one.cloth().told(), (1, [1, 0, 1]))
        self.assertEqual(broken.cloth().told(), (1, [0]))


class Refused(unittest.TestCase):
    def refused(self, draft, fault):
        for function in (Loom, woven_with):
            with self.assertRaises(BadDraft, msg=repr(fault)) as caught:
                function(draft, fault)
            self.assertIs(type(caught.exception), BadDraft)

    def test_what_is_no_fault(self):
        draft = draft_of(2, 2, [1, 2], [[1], [2]], [[1], [2]])
        for fault in (("up", 0), ("up", 3), ("broken", 3), ("loose", 1, 2), ("tied", 1, 1), ("drawn", 1, 1), ("up",), (),
                      ("up", 1, 1), ["up", 1], ("up", True), ("drawn", 1, False), "up 1", ("UP", 1), ("other", 1)):
            self.refused(draft, fault)

    def test_of_anything(self):
        draft = draft_of(2, 2, [1, 2], [[1], [2]], [[1], [2]])
        for thing in STRANGE + (0, 1, [], Odd(), draft, (Odd(),), (Odd(), 1), ("up", Odd())):
            if thing is not None:
                self.refused(draft, thing)

    def test_a_fault_of_another_draft(self):
        one, other = draft_of(1, 1, [1], [[1]], [[1]]), draft_of(2, 1, [1, 2], [[]], [[1]])
        for fault in all_faults(other):
            if fault not in all_faults(one):
                self.refused(one, fault)
