"""[90], [91], [93]: faults, all of a draft, those by which it weaves a cloth."""

import random
import time
import unittest

from loomwright.draft import Draft
from loomwright.faults import all_faults, found_faults, is_fault
from loomwright.loom import woven_with
from loomwright.weaving import woven
from tests.makers import STRANGE, Odd, cloth_of, crossings, draft_of, drawn_cloth, drawn_drafts, reckoned_grid

KINDS = ("up", "down", "broken", "loose", "tied", "drawn")


def reckoned_faults(draft):
    shafts, treadles, threading, ties, _, _, _ = draft.told()
    faults = [("up", shaft) for shaft in range(1, shafts + 1)]
    faults += [("down", shaft) for shaft in range(1, shafts + 1)]
    faults += [("broken", end) for end in range(1, len(threading) + 1)]
    pairs = [(treadle, shaft) for treadle in range(1, treadles + 1) for shaft in range(1, shafts + 1)]
    faults += [("loose", treadle, shaft) for treadle, shaft in pairs if shaft in ties[treadle - 1]]
    faults += [("tied", treadle, shaft) for treadle, shaft in pairs if shaft not in ties[treadle - 1]]
    return faults + [("drawn", end, shaft) for end in range(1, len(threading) + 1) for shaft in range(shafts + 1)
                     if shaft != threading[end - 1]]


def is_lifted(draft, fault, pick, treadle_shaft):
    """Whether a trodden treadle lifts the shaft at the pick, by the words of the document."""
    ties, treading = draft.told()[3:5]
    if fault == ("up", treadle_shaft):
        return True
    if fault == ("down", treadle_shaft):
        return False
    for treadle in treading[pick]:
        lifts = treadle_shaft in ties[treadle - 1]
        if fault == ("loose", treadle, treadle_shaft):
            lifts = False
        if fault == ("tied", treadle, treadle_shaft):
            lifts = True
        if lifts:
            return True
    return False


def reckoned_with(draft, fault):
    """The crossings of what is woven with a fault, or None."""
    threading, treading = draft.told()[2], draft.told()[4]
    grid = []
    for pick in range(len(treading)):
        row = []
        for end, shaft in enumerate(threading, start=1):
            if fault and fault[:2] == ("drawn", end):
                shaft = fault[2]
            row.append(shaft > 0 and fault != ("broken", end) and is_lifted(draft, fault, pick, shaft))
        grid.append(tuple(row))
    return tuple(grid)


class AllFaults(unittest.TestCase):
    def test_by_hand(self):
        draft = draft_of(2, 2, [1, 0, 2], [[1, 2], [2]], [[1], [2]])
        self.assertEqual(all_faults(draft), [
            ("up", 1), ("up", 2), ("down", 1), ("down", 2), ("broken", 1), ("broken", 2), ("broken", 3),
            ("loose", 1, 1), ("loose", 1, 2), ("loose", 2, 2), ("tied", 2, 1),
            ("drawn", 1, 0), ("drawn", 1, 2), ("drawn", 2, 1), ("drawn", 2, 2), ("drawn", 3, 0), ("drawn", 3, 1)])
        self.assertEqual(all_faults(draft_of(1, 1, [0], [[]], [[]])),
                         [("up", 1), ("down", 1), ("broken", 1), ("tied", 1, 1), ("drawn", 1, 1)])

    def test_in_their_order(self):
        for draft in drawn_drafts(90, 150) + drawn_drafts(
                91, 10, most_shafts=16, most_treadles=16, most_ends=60, most_picks=60):
            told = all_faults(draft)
            self.assertEqual(told, reckoned_faults(draft))
            self.assertIs(type(told), list)
            self.assertEqual({type(fault) for fault in told}, {tuple})
            self.assertEqual(told, sorted(told, key=lambda fault: (KINDS.index(fault[0]), fault[1:])))

    def test_the_greatest(self):
        draft = draft_of(16, 16, [16] * 60, [[1, 16]] * 16, [[1]] * 60)
        self.assertEqual(len(all_faults(draft)), 16 + 16 + 60 + 16 * 16 + 60 * 16)


class IsFault(unittest.TestCase):
    def test_each(self):
        for draft in drawn_drafts(92, 12):
            faults = reckoned_faults(draft)
            for kind in KINDS:
                for one in range(-1, 9):
                    self.assertIs(is_fault(draft, (kind, one)), (kind, one) in faults)
                    for other in range(-1, 7):
                        self.assertIs(is_fault(draft, (kind, one, other)), (kind, one, other) in faults)

    def test_the_bounds(self):
        draft = draft_of(3, 2, [1, 2, 3, 0], [[1, 2], [3]], [[1], [2]])
        for fault in (("up", 1), ("up", 3), ("down", 1), ("down", 3), ("broken", 1), ("broken", 4), ("loose", 1, 1),
                      ("loose", 2, 3), ("tied", 1, 3), ("tied", 2, 1), ("drawn", 1, 0), ("drawn", 1, 3), ("drawn", 4, 3)):
            self.assertIs(is_fault(draft, fault), True, fault)
        for fault in (("up", 0), ("up", 4), ("down", 0), ("down", 4), ("broken", 0), ("broken", 5), ("loose", 0, 1),
                      ("loose", 3, 1), ("loose", 1, 0), ("loose", 1, 4), ("tied", 0, 1), ("tied", 3, 1), ("tied", 1, 0),
                      ("tied", 1, 4), ("drawn", 0, 1), ("drawn", 5, 1), ("drawn", 1, 4), ("drawn", 1, -1), ("up", -1),
                      ("up", 10 ** 30), ("drawn", 10 ** 30, 1)):
            self.assertIs(is_fault(draft, fault), False, fault)

    def test_what_is_there_already(self):
        draft = draft_of(3, 2, [1, 2, 3, 0], [[1, 2], [3]], [[1], [2]])
        for fault in (("loose", 1, 3), ("loose", 2, 1), ("tied", 1, 1), ("tied", 1, 2), ("tied", 2, 3), ("drawn", 1, 1),
                      ("drawn", 3, 3), ("drawn", 4, 0)):
            self.assertIs(is_fault(draft, fault), False, fault)

    def test_of_anything(self):
        draft = draft_of(3, 2, [1, 2, 3, 0], [[1, 2], [3]], [[1], [2]])
        for thing in STRANGE + (0, 1, [], ["up", 1], [("up", 1)], {"up": 1}, Odd(), draft, woven(draft)):
            self.assertIs(is_fault(draft, thing), False, repr(thing))
        for thing in STRANGE + ([], ["up"], 1, 0, Odd(), ("up",), "UP", "Up", " up", "up ", "other"):
            self.assertIs(is_fault(draft, (thing, 1)), False, repr(thing))
            self.assertIs(is_fault(draft, (thing, 1, 2)), False, repr(thing))
            self.assertIs(is_fault(draft, (thing,)), False, repr(thing))
        for thing in STRANGE + ([], [1], Odd()):
            for kind in KINDS:
                self.assertIs(is_fault(draft, (kind, thing)), False, repr(thing))
                self.assertIs(is_fault(draft, (kind, 1, thing)), False, repr(thing))
                self.assertIs(is_fault(draft, (kind, thing, 1)), False, repr(thing))

    def test_truths_in_the_place_of_numbers(self):
        draft = draft_of(3, 2, [2, 2], [[1, 2], [3]], [[1], [2]])
        for fault in (("up", True), ("down", True), ("broken", True), ("loose", True, 1), ("loose", 1, True),
                      ("tied", 2, True), ("tied", True, 3), ("drawn", 1, True), ("drawn", True, 1), ("drawn", 1, False)):
            self.assertIs(is_fault(draft, fault), False, fault)
            numbers = tuple(int(part) for part in fault[1:])
            self.assertIs(is_fault(draft, fault[:1] + numbers), True, fault)

    def test_other_lengths(self):
        draft = draft_of(3, 2, [2, 2], [[1, 2], [3]], [[1], [2]])
        for fault in ((), ("up",), ("up", 1, 1), ("down", 1, 1), ("broken", 1, 1), ("loose", 1), ("tied", 2), ("drawn", 1),
                      ("loose", 1, 1, 1), ("tied", 2, 1, 1), ("drawn", 1, 0, 0), ("up", 1, None), (1, "up"), ("up", "1")):
            self.assertIs(is_fault(draft, fault), False, fault)
        for fault in (["up", 1], ["loose", 1, 1], ["drawn", 1, 0]):
            self.assertIs(is_fault(draft, fault), False)
            self.assertIs(is_fault(draft, tuple(fault)), True)


class FoundFaults(unittest.TestCase):
    def tried(self, draft, grid):
        return [fault for fault in reckoned_faults(draft) if reckoned_with(draft, fault) == grid]

    def test_against_all_tried_one_by_one(self):
        chance = random.Random(93)
        for draft in drawn_drafts(94, 40, most_ends=5, most_picks=5):
            cloths = [woven_with(draft, fault) for fault in chance.sample(all_faults(draft), 5)]
            cloths += [woven(draft), drawn_cloth(chance, draft.ends(), draft.picks())]
            for cloth in cloths:
                told = found_faults(draft, cloth)
                self.assertEqual(told, self.tried(draft, crossings(cloth)))
                self.assertIs(type(told), list)

    def test_each_fault_is_found(self):
        for draft in drawn_drafts(95, 15):
            for fault in all_faults(draft):
                self.assertIn(fault, found_faults(draft, woven_with(draft, fault)))

    def test_a_cloth_of_another_size(self):
        draft = draft_of(1, 1, [1, 0], [[1]], [[1], []])
        self.assertEqual(found_faults(draft, cloth_of([[True, False], [False, False], [False, False]])), [])
        self.assertEqual(found_faults(draft, cloth_of([[True, False]])), [])
        self.assertEqual(found_faults(draft, cloth_of([[True, False, False], [False, False, False]])), [])
        self.assertEqual(found_faults(draft, cloth_of([[True], [False]])), [])
        self.assertEqual(found_faults(draft, cloth_of([[False, False], [False, False]])),
                         [("down", 1), ("broken", 1), ("loose", 1, 1), ("drawn", 1, 0)])

    def test_faults_that_change_nothing(self):
        # Shaft 2 carries no end, treadle 2 is never trodden.
        draft = draft_of(2, 2, [1, 0], [[1], [1]], [[1], []])
        self.assertEqual(found_faults(draft, woven(draft)), [
            ("up", 2), ("down", 2), ("broken", 2), ("loose", 2, 1), ("tied", 1, 2), ("tied", 2, 2), ("drawn", 2, 2)])
        self.assertEqual(reckoned_grid(draft), crossings(woven_with(draft, ("up", 2))))

    def test_no_fault_at_all(self):
        draft = draft_of(1, 1, [1], [[1]], [[1]])
        self.assertEqual(found_faults(draft, woven(draft)), [("up", 1)])
        draft = draft_of(1, 2, [1], [[1], []], [[1], [2]])
        self.assertEqual(found_faults(draft, woven(draft)), [])

    def test_found_soon(self):
        chance = random.Random(96)
        every = list(range(1, 17))
        great = [draft_of(16, 16, [chance.choice(every) for _ in range(60)],
                          [[shaft for shaft in every if chance.random() < 0.5] for _ in every],
                          [[chance.choice(every)] for _ in range(60)]),
                 draft_of(16, 16, [1] * 60, [[1]] * 16, [[1]] * 60), draft_of(16, 16, [0] * 60, [every] * 16, [every] * 60)]
        began = time.perf_counter()
        for draft in great:
            found_faults(draft, woven(draft))
        self.assertLess(time.perf_counter() - began, 20)

    def test_colours_do_not_matter(self):
        parts = (2, 1, [1, 2], [[1]], [[1], []])
        one, other = Draft(*parts, ["a", "b"], ["c", "d"]), Draft(*parts, ["z", "z"], ["z", "z"])
        self.assertEqual(found_faults(one, woven(one)), found_faults(other, woven(other)))
