"""The whole: from the draft's text to the cloth, to what is read off, and back; the fault that is woven is found."""

import random
import unittest

from loomwright.apart import taken_apart, woven_at_once
from loomwright.blocks import grown_by, plan_of
from loomwright.clothtext import cloth_text, read_cloth
from loomwright.colours import seen, seen_behind
from loomwright.cloth import from_behind
from loomwright.desk import Desk
from loomwright.draft import Draft
from loomwright.drafttext import draft_text, read_draft
from loomwright.draftturns import inverted_draft, quartered_draft
from loomwright.errors import TooMany
from loomwright.faults import all_faults, found_faults
from loomwright.few import fewest_treadles
from loomwright.floats import round_floats, unbound_of
from loomwright.hand import Hand
from loomwright.hanging import hangs
from loomwright.joins import draft_told_over, told_over
from loomwright.layers import layers_of
from loomwright.loom import Loom, woven_with
from loomwright.readoff import read_off
from loomwright.repeats import least_repeat, sort_of
from loomwright.turns import inverted, quartered
from loomwright.weaving import woven
from tests.makers import drawn_drafts

TWILL = """shafts 4
treadles 4
thread 3( 1 2 3 4 )
tie 1 2
tie 2 3
tie 3 4
tie 1 4
tread 2( 1 2 3 4 )
warp 12( a )
weft 8( b )"""


class Whole(unittest.TestCase):
    def test_a_twill(self):
        draft = read_draft(TWILL)
        cloth = woven(draft)
        self.assertEqual(cloth_text(cloth).split("\n")[:4],
                         ["##..##..##..", ".##..##..##.", "..##..##..##", "#..##..##..#"])
        self.assertEqual(sort_of(cloth), "twill")
        self.assertEqual(least_repeat(cloth), (4, 4))
        self.assertEqual(round_floats(cloth), ((2, 1, 4), (2, 1, 3)))
        self.assertEqual(unbound_of(cloth), ([], []))
        self.assertIs(hangs(cloth), True)
        self.assertEqual(len(layers_of(cloth)), 1)
        self.assertEqual(read_off(cloth).told(), draft.told())
        self.assertEqual(draft_text(read_off(cloth)).split("\n")[:2], ["shafts 4", "treadles 4"])
        self.assertEqual(seen(draft)[0], "aabbaabbaabb")

    def test_from_text_to_cloth_and_back(self):
        for draft in drawn_drafts(104, 60, most_ends=10, most_picks=10):
            cloth = woven(read_draft(draft_text(draft)))
            self.assertEqual(cloth.told(), woven(draft).told())
            again = read_cloth(cloth_text(cloth))
            self.assertEqual(again.told(), cloth.told())
            drafts = [read_off(again)]
            try:
                drafts.append(fewest_treadles(again))
            except TooMany:
                self.assertGreater(drafts[0].told()[0], 4)
            for other in drafts:
                self.assertEqual(woven(read_draft(draft_text(other))).told(), cloth.told())
                self.assertEqual(read_off(woven(other)).told(), drafts[0].told())
                self.assertLessEqual(other.told()[1], drafts[0].told()[1])

    def test_the_fault_that_is_woven_is_found(self):
        chance = random.Random(105)
        for draft in drawn_drafts(106, 30):
            for fault in chance.sample(all_faults(draft), 4):
                loom = Loom(draft, fault)
                while loom.step() is not None:
                    pass
                cloth = loom.cloth()
                self.assertEqual(cloth.told(), woven_with(draft, fault).told())
                self.assertIn(fault, found_faults(draft, cloth))
                desk = Desk(draft_text(draft))
                answer = desk.say("faults " + cloth_text(cloth).replace("\n", " / "))
                self.assertIn(" ".join(str(part) for part in fault), answer.split(" / "))

    def test_the_hand_weaves_a_fault_and_it_is_found(self):
        draft = read_draft(TWILL)
        hand = Hand(draft)
        self.assertEqual(hand.tie(2, [2, 3, 4]), ([2, 6], []))
        self.assertEqual(found_faults(draft, hand.cloth()), [("tied", 2, 4)])
        self.assertEqual(hand.undo(), ([2, 6], []))
        self.assertEqual(hand.thread(5, 3), ([], [5]))
        self.assertEqual(found_faults(draft, hand.cloth()), [("drawn", 5, 3)])

    def test_a_drafts_turns_and_the_cloths(self):
        draft = read_draft(TWILL)
        self.assertEqual(woven(inverted_draft(draft)).told(), inverted(woven(draft)).told())
        self.assertEqual(woven(quartered_draft(draft)).told(), quartered(woven(draft)).told())
        self.assertEqual(woven(draft_told_over(draft, 5, 7)).told(), told_over(woven(draft), 5, 7).told())
        self.assertEqual(sort_of(from_behind(woven(draft))), "twill")

    def test_from_behind_the_other_colours_are_seen(self):
        for draft in drawn_drafts(107, 40):
            shafts, treadles, threading, ties, treading, _, _ = draft.told()
            one = Draft(shafts, treadles, threading, ties, treading, ["u"] * draft.ends(), ["d"] * draft.picks())
            self.assertEqual([row.replace("u", "#").replace("d", ".") for row in seen(one)],
                             cloth_text(woven(draft)).split("\n"))
            self.assertEqual([row.replace("d", ".").replace("u", "#") for row in seen_behind(one)],
                             cloth_text(from_behind(woven(draft))).split("\n"))

    def test_blocks_and_layers(self):
        twill, plain = woven(read_draft(TWILL)), read_cloth("#.\n.#")
        grown = grown_by(read_cloth("#.\n##"), twill, told_over(plain, 6, 4))
        self.assertEqual(plan_of(grown, twill, told_over(plain, 6, 4)).told(), (2, [1, 3]))
        above, beneath = told_over(plain, 6, 4), twill
        parts = taken_apart(woven_at_once([above, beneath]))
        self.assertEqual([cloth.told() for _, _, cloth in parts], [above.told(), beneath.told()])
