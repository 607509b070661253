"""[100], [101], [102]: a hand, its deeds, undoing, what it refuses."""

import random
import unittest

from loomwright.cloth import Cloth
from loomwright.draft import Draft
from loomwright.errors import BadDraft, OutOfPlace
from loomwright.hand import Hand
from loomwright.weaving import woven
from tests.makers import STRANGE, Odd, crossings, draft_of, drawn_drafts, reckoned_grid

PARTS = (3, 2, [1, 0, 3], [[1, 3], [2]], [[1], [], [1, 2]], ["a", "b", "c"], ["x", "y", "z"])


def changed(**parts):
    names = ("shafts", "treadles", "threading", "ties", "treading", "warp", "weft")
    return tuple(parts.get(name, part) for name, part in zip(names, PARTS))


def lifts(parts):
    return [frozenset(shaft for treadle in pick for shaft in parts[3][treadle - 1]) for pick in parts[4]]


class Deeds(unittest.TestCase):
    def setUp(self):
        self.hand = Hand(Draft(*PARTS))

    def holds(self, parts):
        draft, cloth = self.hand.draft(), self.hand.cloth()
        self.assertIs(type(draft), Draft)
        self.assertIs(type(cloth), Cloth)
        self.assertEqual(draft.told(), parts)
        self.assertEqual(crossings(cloth), reckoned_grid(Draft(*parts)))
        self.assertEqual(cloth.told(), woven(Draft(*parts)).told())

    def told(self, told, wanted):
        self.assertEqual(told, wanted)
        self.assertEqual([type(told)] + [type(part) for part in told], [tuple, list, list])

    def test_its_draft_and_cloth(self):
        self.holds(PARTS)

    def test_thread(self):
        self.told(self.hand.thread(1, 2), ([], [1]))
        self.holds(changed(threading=[2, 0, 3]))
        self.told(self.hand.thread(2, 3), ([], [2]))
        self.told(self.hand.thread(3, 0), ([], [3]))
        self.holds(changed(threading=[2, 3, 0]))
        self.told(self.hand.thread(3, 0), ([], []))
        self.told(self.hand.thread(1, 2), ([], []))
        self.holds(changed(threading=[2, 3, 0]))

    def test_a_shaft_that_is_lifted_alike(self):
        # Shafts 1 and 3 are lifted together: the cloth is the same, the end is woven again all the same.
        before = self.hand.cloth().told()
        self.told(self.hand.thread(1, 3), ([], [1]))
        self.assertEqual(self.hand.cloth().told(), before)

    def test_tie(self):
        self.told(self.hand.tie(1, [1]), ([1, 3], []))
        self.holds(changed(ties=[[1], [2]]))
        self.told(self.hand.tie(2, [1]), ([3], []))
        self.holds(changed(ties=[[1], [1]]))
        # Shaft 1 is lifted by the first treadle already.
        self.told(self.hand.tie(2, []), ([], []))
        self.holds(changed(ties=[[1], []]))
        self.told(self.hand.tie(2, []), ([], []))
        self.told(self.hand.tie(1, [1, 2, 3]), ([1, 3], []))
        self.holds(changed(ties=[[1, 2, 3], []]))

    def test_tread(self):
        self.told(self.hand.tread(2, [2]), ([2], []))
        self.holds(changed(treading=[[1], [2], [1, 2]]))
        self.told(self.hand.tread(2, [2]), ([], []))
        self.told(self.hand.tread(1, []), ([1], []))
        self.told(self.hand.tread(3, [1]), ([3], []))
        self.holds(changed(treading=[[], [2], [1]]))

    def test_other_treadles_with_the_same_lift(self):
        self.hand.tie(2, [1, 3])
        self.told(self.hand.tread(1, [2]), ([], []))
        self.told(self.hand.tread(1, [1, 2]), ([], []))
        self.holds(changed(ties=[[1, 3], [1, 3]], treading=[[1, 2], [], [1, 2]]))

    def test_colour(self):
        self.told(self.hand.colour("warp", 1, "q"), ([], []))
        self.told(self.hand.colour("weft", 3, "r"), ([], []))
        self.holds(changed(warp=["q", "b", "c"], weft=["x", "y", "r"]))
        self.told(self.hand.colour("warp", 1, "q"), ([], []))

    def test_put_end(self):
        self.told(self.hand.put_end(1, 2, "q"), ([], [1]))
        self.holds(changed(threading=[2, 1, 0, 3], warp=["q", "a", "b", "c"]))
        self.told(self.hand.put_end(5, 0, "r"), ([], [5]))
        self.holds(changed(threading=[2, 1, 0, 3, 0], warp=["q", "a", "b", "c", "r"]))
        self.told(self.hand.put_end(3, 3, "s"), ([], [3]))
        self.holds(changed(threading=[2, 1, 3, 0, 3, 0], warp=["q", "a", "s", "b", "c", "r"]))

    def test_put_pick(self):
        self.told(self.hand.put_pick(1, [2], "q"), ([1], []))
        self.holds(changed(treading=[[2], [1], [], [1, 2]], weft=["q", "x", "y", "z"]))
        self.told(self.hand.put_pick(5, [], "r"), ([5], []))
        self.told(self.hand.put_pick(2, [1, 2], "s"), ([2], []))
        self.holds(changed(treading=[[2], [1, 2], [1], [], [1, 2], []], weft=["q", "s", "x", "y", "z", "r"]))

    def test_take_end(self):
        self.told(self.hand.take_end(2), ([], []))
        self.holds(changed(threading=[1, 3], warp=["a", "c"]))
        self.told(self.hand.take_end(2), ([], []))
        self.holds(changed(threading=[1], warp=["a"]))

    def test_take_pick(self):
        self.told(self.hand.take_pick(1), ([], []))
        self.holds(changed(treading=[[], [1, 2]], weft=["y", "z"]))
        self.told(self.hand.take_pick(2), ([], []))
        self.holds(changed(treading=[[]], weft=["y"]))

    def test_up_to_sixty(self):
        for count in range(4, 61):
            self.told(self.hand.put_end(count, 1, "a"), ([], [count]))
            self.told(self.hand.put_pick(1, [1], "b"), ([1], []))
        self.assertEqual((self.hand.draft().ends(), self.hand.draft().picks()), (60, 60))


class Undone(unittest.TestCase):
    DEEDS = (
        (("thread", 1, 2), ([], [1])),
        (("thread", 1, 1), ([], [])),
        (("tie", 1, [1]), ([1, 3], [])),
        (("tie", 2, [2]), ([], [])),
        (("tie", 2, [2, 3]), ([], [])),
        (("tread", 2, [1, 2]), ([2], [])),
        (("tread", 2, []), ([], [])),
        (("colour", "warp", 3, "q"), ([], [])),
        (("colour", "weft", 1, "x"), ([], [])),
        (("put_end", 2, 1, "q"), ([], [])),
        (("put_end", 4, 0, "q"), ([], [])),
        (("put_pick", 1, [2], "q"), ([], [])),
        (("put_pick", 4, [], "q"), ([], [])),
        (("take_end", 1), ([], [1])),
        (("take_end", 3), ([], [3])),
        (("take_end", 2), ([], [2])),
        (("take_pick", 2), ([2], [])),
        (("take_pick", 3), ([3], [])),
    )

    def do(self, hand, deed):
        return getattr(hand, deed[0])(*deed[1:])

    def test_each(self):
        for deed, wanted in self.DEEDS:
            hand = Hand(Draft(*PARTS))
            cloth = hand.cloth().told()
            self.do(hand, deed)
            told = hand.undo()
            self.assertEqual(told, wanted, deed)
            self.assertEqual([type(told)] + [type(part) for part in told], [tuple, list, list])
            self.assertEqual(hand.draft().told(), PARTS, deed)
            self.assertEqual(hand.cloth().told(), cloth, deed)
            with self.assertRaises(OutOfPlace):
                hand.undo()

    def test_several(self):
        hand = Hand(Draft(*PARTS))
        told = [hand.draft().told()]
        for deed, _ in self.DEEDS[:-2]:
            self.do(hand, deed)
            told.append(hand.draft().told())
        while len(told) > 1:
            self.assertEqual(hand.draft().told(), told.pop())
            hand.undo()
        self.assertEqual(hand.draft().told(), PARTS)

    def test_undoing_is_not_undone(self):
        hand = Hand(Draft(*PARTS))
        hand.thread(1, 2)
        hand.thread(1, 3)
        self.assertEqual(hand.undo(), ([], [1]))
        self.assertEqual(hand.draft().told()[2], [2, 0, 3])
        self.assertEqual(hand.undo(), ([], [1]))
        self.assertEqual(hand.draft().told(), PARTS)
        hand.thread(2, 1)
        self.assertEqual(hand.undo(), ([], [2]))
        self.assertEqual(hand.draft().told(), PARTS)

    def test_deeds_that_changed_nothing(self):
        hand = Hand(Draft(*PARTS))
        hand.thread(1, 2)
        hand.thread(1, 2)
        self.assertEqual(hand.undo(), ([], []))
        self.assertEqual(hand.draft().told()[2], [2, 0, 3])
        self.assertEqual(hand.undo(), ([], [1]))
        self.assertEqual(hand.draft().told(), PARTS)

    def test_a_long_row_of_deeds(self):
        # Against a list of all drafts so far; what is told is reckoned of the drafts ahead and behind.
        chance = random.Random(100)
        for draft in drawn_drafts(101, 20):
            hand, past = Hand(draft), []
            for _ in range(60):
                before = hand.draft().told()
                shafts, treadles, threading, _, treading, _, _ = before
                ends, picks = len(threading), len(treading)

                def some(most):
                    return [number for number in range(1, most + 1) if chance.random() < 0.5]

                deed = chance.choice((
                    ("thread", chance.randint(1, ends), chance.randint(0, shafts)),
                    ("tie", chance.randint(1, treadles), some(shafts)),
                    ("tread", chance.randint(1, picks), some(treadles)),
                    ("colour", "warp", chance.randint(1, ends), "k"),
                    ("put_end", chance.randint(1, ends + 1), chance.randint(0, shafts), "l"),
                    ("put_pick", chance.randint(1, picks + 1), some(treadles), "m"),
                    ("take_end", chance.randint(1, ends)),
                    ("take_pick", chance.randint(1, picks)),
                    ("undo",),
                    ("undo",),
                ))
                if deed == ("undo",) and not past or deed[0] == "take_end" and ends == 1 or (
                        deed[0] == "take_pick" and picks == 1):
                    continue
                told = self.do(hand, deed)
                after = hand.draft().told()
                self.assertEqual(hand.cloth().told(), woven(hand.draft()).told())
                if deed[0] == "undo":
                    ahead, undone = past.pop()
                    self.assertEqual(after, ahead)
                    wanted = {"take_end": ([], [undone[1]]), "take_pick": ([undone[1]], [])} if len(undone) > 1 else {}
                    deed = ("undo " + undone[0],) + undone[1:]
                    wanted = wanted.get(undone[0])
                else:
                    past.append((before, deed))
                    wanted = {"put_end": ([], [deed[1]]), "put_pick": ([deed[1]], [])}.get(deed[0])
                if wanted is None:
                    wanted = ([], [])
                    if len(before[2]) == len(after[2]) and len(before[4]) == len(after[4]):
                        wanted = ([place + 1 for place, (one, other) in enumerate(zip(lifts(before), lifts(after)))
                                   if one != other],
                                  [place + 1 for place, (one, other) in enumerate(zip(before[2], after[2]))
                                   if one != other])
                self.assertEqual(told, wanted, deed)


class Refused(unittest.TestCase):
    def setUp(self):
        self.hand = Hand(Draft(*PARTS))
        self.hand.thread(1, 2)
        self.now = changed(threading=[2, 0, 3])

    def refused(self, kind, name, *given):
        with self.assertRaises(kind, msg=repr((name, given))) as caught:
            getattr(self.hand, name)(*given)
        self.assertIs(type(caught.exception), kind)
        self.assertEqual(self.hand.draft().told(), self.now)
        self.assertEqual(self.hand.cloth().told(), woven(Draft(*self.now)).told())

    def tearDown(self):
        # What can be undone stays: the one deed that was done ahead of all refusals.
        self.assertEqual(self.hand.undo(), ([], [1]))
        self.assertEqual(self.hand.draft().told(), PARTS)
        with self.assertRaises(OutOfPlace):
            self.hand.undo()
        self.assertEqual(self.hand.draft().told(), PARTS)

    def test_places_that_are_not_there(self):
        for place in STRANGE + (0, -1, 4, 5, 61, 10 ** 30, [], [1], Odd()):
            self.refused(OutOfPlace, "thread", place, 1)
            self.refused(OutOfPlace, "tread", place, [1])
            self.refused(OutOfPlace, "take_end", place)
            self.refused(OutOfPlace, "take_pick", place)
            self.refused(OutOfPlace, "colour", "warp", place, "a")
            self.refused(OutOfPlace, "colour", "weft", place, "a")
        # Behind the last one a thread can be put.
        for place in STRANGE + (0, -1, 5, 61, 10 ** 30, [], [1], Odd()):
            self.refused(OutOfPlace, "put_end", place, 1, "a")
            self.refused(OutOfPlace, "put_pick", place, [1], "a")
        for place in STRANGE + (0, -1, 3, 17, Odd()):
            self.refused(OutOfPlace, "tie", place, [1])

    def test_sides_that_are_not_there(self):
        for side in STRANGE + (0, 1, "Warp", "warp ", "ends", "warpweft", [], ["warp"], ("warp",), Odd()):
            self.refused(OutOfPlace, "colour", side, 1, "a")
            self.refused(OutOfPlace, "colour", side, 1, "A")

    def test_places_ahead_of_what_is_put_there(self):
        for place in (0, 5, None, True):
            for thing in (None, 99, "x", [], (), [9], Odd()):
                self.refused(OutOfPlace, "thread", place, thing)
                self.refused(OutOfPlace, "tie", place, thing)
                self.refused(OutOfPlace, "tread", place, thing)
                self.refused(OutOfPlace, "colour", "warp", place, thing)
                self.refused(OutOfPlace, "put_end", place, thing, thing)
                self.refused(OutOfPlace, "put_pick", place, thing, thing)

    def test_shafts(self):
        for shaft in STRANGE + (-1, 4, 17, 10 ** 30, [], [1], Odd()):
            self.refused(BadDraft, "thread", 1, shaft)
            self.refused(BadDraft, "put_end", 1, shaft, "a")
            self.refused(BadDraft, "put_end", 4, shaft, "a")

    def test_lists_of_shafts_and_treadles(self):
        for thing in STRANGE + (0, 1, (1, 2), [0], [4], [1, 1], [2, 1], [True], [None], ["1"], [[1]], [1, Odd()], Odd()):
            self.refused(BadDraft, "tie", 1, thing)
            self.refused(BadDraft, "tread", 1, thing)
            self.refused(BadDraft, "put_pick", 1, thing, "a")
            self.refused(BadDraft, "put_pick", 4, thing, "a")
        self.refused(BadDraft, "tread", 1, [3])
        self.refused(BadDraft, "put_pick", 1, [1, 2, 3], "a")

    def test_colours(self):
        for thing in STRANGE + (0, 1, "A", "ab", "~", ["a"], ("a",), Odd()):
            if not (isinstance(thing, str) and thing == "a"):
                self.refused(BadDraft, "colour", "warp", 1, thing)
                self.refused(BadDraft, "colour", "weft", 3, thing)
                self.refused(BadDraft, "put_end", 1, 1, thing)
                self.refused(BadDraft, "put_pick", 1, [1], thing)


class Bounds(unittest.TestCase):
    def refused(self, kind, hand, name, *given):
        before = hand.draft().told()
        with self.assertRaises(kind) as caught:
            getattr(hand, name)(*given)
        self.assertIs(type(caught.exception), kind)
        self.assertEqual(hand.draft().told(), before)

    def test_the_last_thread(self):
        hand = Hand(draft_of(1, 1, [1], [[1]], [[1]]))
        self.refused(BadDraft, hand, "take_end", 1)
        self.refused(BadDraft, hand, "take_pick", 1)
        self.refused(OutOfPlace, hand, "take_end", 2)
        self.refused(OutOfPlace, hand, "take_pick", 2)
        self.refused(OutOfPlace, hand, "take_end", 0)
        self.refused(OutOfPlace, hand, "undo")

    def test_a_sixty_first(self):
        hand = Hand(draft_of(1, 1, [1] * 60, [[1]], [[1]] * 60))
        for place in (1, 30, 60, 61):
            self.refused(BadDraft, hand, "put_end", place, 1, "a")
            self.refused(BadDraft, hand, "put_pick", place, [1], "a")
        self.refused(OutOfPlace, hand, "put_end", 62, 1, "a")
        self.refused(OutOfPlace, hand, "put_pick", 62, [1], "a")
        self.refused(OutOfPlace, hand, "undo")

    def test_nothing_to_undo(self):
        hand = Hand(draft_of(1, 1, [1], [[1]], [[1]]))
        for _ in range(3):
            self.refused(OutOfPlace, hand, "undo")
        hand.thread(1, 0)
        self.refused(BadDraft, hand, "thread", 1, 2)
        self.assertEqual(hand.undo(), ([], [1]))
        self.refused(OutOfPlace, hand, "undo")
