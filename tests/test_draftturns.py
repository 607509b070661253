"""[52]: drafts turned, what is plain, NotPlain."""

import random
import unittest

from loomwright.draft import Draft
from loomwright.draftturns import inverted_draft, mirrored_draft, need_plain, quartered_draft, upended_draft
from loomwright.errors import NotPlain
from loomwright.turns import inverted, mirrored, quartered, upended
from loomwright.weaving import woven
from tests.makers import draft_of, drawn_drafts


def plain_drafts(seed, many, most_shafts=4, most_ends=6):
    chance = random.Random(seed)
    made = []
    for _ in range(many):
        shafts, treadles = chance.randint(1, most_shafts), chance.randint(1, most_shafts)
        ends, picks = chance.randint(1, most_ends), chance.randint(1, most_ends)
        made.append(Draft(
            shafts, treadles, [chance.randint(1, shafts) for _ in range(ends)],
            [[shaft for shaft in range(1, shafts + 1) if chance.random() < 0.5] for _ in range(treadles)],
            [[chance.randint(1, treadles)] for _ in range(picks)],
            [chance.choice("abc") for _ in range(ends)], [chance.choice("xyz") for _ in range(picks)]))
    return made


def all_plain():
    return plain_drafts(52, 200) + plain_drafts(53, 20, 16, 60)


def any_drafts():
    return drawn_drafts(54, 200) + drawn_drafts(55, 10, most_shafts=16, most_treadles=16, most_ends=60, most_picks=60)


class Mirrored(unittest.TestCase):
    def test_by_hand(self):
        draft = Draft(2, 2, [1, 2, 0], [[1], [1, 2]], [[1], [], [1, 2]], ["a", "b", "c"], ["x", "y", "z"])
        self.assertEqual(mirrored_draft(draft).told(),
                         (2, 2, [0, 2, 1], [[1], [1, 2]], [[1], [], [1, 2]], ["c", "b", "a"], ["x", "y", "z"]))
        self.assertEqual(upended_draft(draft).told(),
                         (2, 2, [1, 2, 0], [[1], [1, 2]], [[1, 2], [], [1]], ["a", "b", "c"], ["z", "y", "x"]))

    def test_it_weaves_the_cloth_turned(self):
        for draft in any_drafts():
            self.assertEqual(woven(mirrored_draft(draft)).told(), mirrored(woven(draft)).told())
            self.assertEqual(woven(upended_draft(draft)).told(), upended(woven(draft)).told())

    def test_each_part(self):
        for draft in any_drafts():
            shafts, treadles, threading, ties, treading, warp, weft = draft.told()
            self.assertEqual(mirrored_draft(draft).told(),
                             (shafts, treadles, threading[::-1], ties, treading, warp[::-1], weft))
            self.assertEqual(upended_draft(draft).told(),
                             (shafts, treadles, threading, ties, treading[::-1], warp, weft[::-1]))
            self.assertIs(type(mirrored_draft(draft)), Draft)
            self.assertIs(type(upended_draft(draft)), Draft)


class Plain(unittest.TestCase):
    def refused(self, draft, what, number):
        for function in (need_plain, inverted_draft, quartered_draft):
            with self.assertRaises(NotPlain) as caught:
                function(draft)
            self.assertIs(type(caught.exception), NotPlain)
            self.assertEqual((caught.exception.what, caught.exception.number), (what, number))

    def test_plain_ones(self):
        for draft in all_plain():
            self.assertIsNone(need_plain(draft))
        self.assertIsNone(need_plain(draft_of(1, 1, [1], [[]], [[1]])))

    def test_ends_through_no_shaft(self):
        for threading, end in (([0], 1), ([0, 0], 1), ([1, 0, 2], 2), ([1, 2, 0], 3), ([2, 0, 0, 1], 2)):
            self.refused(draft_of(2, 2, threading, [[1], [2]], [[1]]), "end", end)
        self.refused(draft_of(2, 2, [1] * 59 + [0], [[1], [2]], [[1]]), "end", 60)

    def test_picks_that_tread_none_or_two(self):
        for treading, pick in (([[]], 1), ([[1, 2]], 1), ([[1], []], 2), ([[1], [2], [1, 2], []], 3),
                               ([[], [1, 2]], 1), ([[1]] * 59 + [[]], 60)):
            self.refused(draft_of(2, 2, [1, 2], [[1], [2]], treading), "pick", pick)

    def test_ends_ahead_of_picks(self):
        self.refused(draft_of(2, 2, [1, 2, 1, 0], [[1], [2]], [[], [1]]), "end", 4)
        self.refused(draft_of(2, 2, [0], [[1], [2]], [[1, 2]]), "end", 1)

    def test_all_drafts(self):
        for draft in any_drafts():
            threading, treading = draft.told()[2], draft.told()[4]
            bad_picks = [pick for pick, treadles in enumerate(treading, start=1) if len(treadles) != 1]
            if 0 in threading:
                self.refused(draft, "end", threading.index(0) + 1)
            elif bad_picks:
                self.refused(draft, "pick", bad_picks[0])
            else:
                self.assertIsNone(need_plain(draft))


class InvertedAndQuartered(unittest.TestCase):
    def test_by_hand(self):
        draft = Draft(3, 2, [1, 3], [[1, 2], []], [[1], [1], [2]], ["a", "b"], ["x", "y", "z"])
        self.assertEqual(inverted_draft(draft).told(),
                         (3, 2, [1, 3], [[3], [1, 2, 3]], [[1], [1], [2]], ["a", "b"], ["x", "y", "z"]))
        self.assertEqual(quartered_draft(draft).told(),
                         (2, 3, [1, 1, 2], [[2], [2], [1, 2]], [[1], [3]], ["x", "y", "z"], ["a", "b"]))

    def test_ties_that_are_never_trodden(self):
        draft = draft_of(2, 3, [1, 2], [[1], [2], [1, 2]], [[1], [1]])
        self.assertEqual(inverted_draft(draft).told()[3], [[2], [1], []])
        self.assertEqual(quartered_draft(draft).told()[3], [[2], [1]])

    def test_they_weave_the_cloth_turned(self):
        for draft in all_plain():
            self.assertEqual(woven(inverted_draft(draft)).told(), inverted(woven(draft)).told())
            self.assertEqual(woven(quartered_draft(draft)).told(), quartered(woven(draft)).told())

    def test_each_part(self):
        for draft in all_plain():
            shafts, treadles, threading, ties, treading, warp, weft = draft.told()
            others = [sorted(set(range(1, shafts + 1)) - set(tie)) for tie in ties]
            self.assertEqual(inverted_draft(draft).told(), (shafts, treadles, threading, others, treading, warp, weft))
            lacking = [[treadle for treadle in range(1, treadles + 1) if shaft not in ties[treadle - 1]]
                       for shaft in range(1, shafts + 1)]
            self.assertEqual(quartered_draft(draft).told(),
                             (treadles, shafts, [pick[0] for pick in treading], lacking,
                              [[shaft] for shaft in threading], weft, warp))
            self.assertIs(type(inverted_draft(draft)), Draft)
            self.assertIs(type(quartered_draft(draft)), Draft)

    def test_twice(self):
        for draft in all_plain():
            for turn in (mirrored_draft, upended_draft, inverted_draft, quartered_draft):
                self.assertEqual(turn(turn(draft)).told(), draft.told())
