"""[0]: what is handed in is neither changed nor kept, what is told is the asker's own."""

import copy
import unittest

from loomwright import apart, blocks, cloth, clothtext, colours, desk, draft, drafttext, draftturns, faults, few, floats
from loomwright import groups, hand, hanging, joins, layers, loom, readoff, repeats, turns, weaving, words
from loomwright.errors import BadCloth, BadDraft, BadRow, BadWord, LoomError, OutOfPlace
from tests.makers import plain
from tests.test_interface import interface, named


def anything(item):
    return True


def draft_parts():
    return [3, 2, [1, 0, 3], [[1, 3], []], [[1], [], [1, 2]], ["a", "b", "c"], ["d", "e", "f"]]


def changed_within(thing):
    """Changes every list of what is handed in or told, also those within others, and those that objects tell."""
    if isinstance(thing, (draft.Draft, cloth.Cloth)):
        changed_within(thing.told())
    if isinstance(thing, (list, tuple)):
        for member in thing:
            changed_within(member)
    if isinstance(thing, list):
        thing.reverse()
        thing.append("changed")


def parts_within(thing):
    """Every list, draft and cloth of what is handed in or told."""
    if isinstance(thing, (list, draft.Draft, cloth.Cloth)):
        yield thing
    if isinstance(thing, (list, tuple)):
        for member in thing:
            yield from parts_within(member)


def a_draft():
    return draft.Draft(*draft_parts())


def plain_draft():
    return draft.Draft(3, 2, [1, 2, 3], [[1, 3], []], [[1], [2], [1]], ["a", "b", "c"], ["d", "e", "f"])


def a_cloth():
    return cloth.Cloth(3, [0b101, 0b010, 0b011, 0b000])


# Each function of the program, with a list wherever one can be handed in.
CALLS = (
    (words.is_whole, ([1, [2]],)),
    (words.is_whole, (1,)),
    (words.is_among, ([1, [2]], 0, 9)),
    (words.is_among, (1, 0, 9)),
    (words.is_colour, (["a", ["b"]],)),
    (words.is_colour, ("a",)),
    (words.number_of, (["1", ["2"]],)),
    (words.number_of, ("12",)),
    (words.number_text, (12,)),
    (words.words_of, (["a b", ["c"]],)),
    (words.words_of, ("a b c",)),
    (groups.spread, (["a", "b"], 60, anything)),
    (groups.spread, (["2(", "a", "3(", "b", ")", ")"], 60, anything)),
    (groups.gathered, (["a"],)),
    (groups.gathered, (["a", "b", "a"],)),
    (groups.gathered, (list("aaaabaaaab"),)),
    (drafttext.draft_text, (a_draft(),)),
    (drafttext.read_draft, (drafttext.draft_text(a_draft()),)),
    (cloth.from_behind, (a_cloth(),)),
    (clothtext.cloth_text, (a_cloth(),)),
    (clothtext.read_cloth, ("#.#\n.#.",)),
    (weaving.lifts_of, (a_draft(),)),
    (weaving.woven, (a_draft(),)),
    (readoff.kind_numbers, ([3, 0, 3, 1],)),
    (readoff.kinds_of, ([3, 0, 3, 1],)),
    (readoff.read_off, (a_cloth(),)),
    (readoff.fewest_shown, (a_cloth(),)),
    (few.few_ties, ([3, 1, 0, 3],)),
    (few.trodden_of, (3, [3, 1, 0, 3])),
    (few.fewest_treadles, (a_cloth(),)),
    (colours.seen, (a_draft(),)),
    (colours.seen_behind, (a_draft(),)),
    (turns.mirrored, (a_cloth(),)),
    (turns.mirrored, (cloth.Cloth(1, [1]),)),
    (turns.upended, (a_cloth(),)),
    (turns.upended, (cloth.Cloth(1, [1]),)),
    (turns.inverted, (a_cloth(),)),
    (turns.quartered, (a_cloth(),)),
    (draftturns.mirrored_draft, (a_draft(),)),
    (draftturns.upended_draft, (a_draft(),)),
    (draftturns.need_plain, (plain_draft(),)),
    (draftturns.inverted_draft, (plain_draft(),)),
    (draftturns.quartered_draft, (plain_draft(),)),
    (joins.beside, (a_cloth(), a_cloth())),
    (joins.below, (a_cloth(), a_cloth())),
    (joins.told_over, (a_cloth(), 2, 3)),
    (joins.told_over, (a_cloth(), 1, 1)),
    (joins.draft_told_over, (a_draft(), 2, 3)),
    (joins.draft_told_over, (a_draft(), 1, 1)),
    (floats.floats_of, (a_cloth(),)),
    (floats.round_floats, (a_cloth(),)),
    (floats.unbound_of, (cloth.Cloth(2, [1, 3, 1]),)),
    (repeats.least_repeat, (a_cloth(),)),
    (repeats.step_of, (a_cloth(),)),
    (repeats.sort_of, (a_cloth(),)),
    (hanging.over_of, (a_cloth(), ("end", 2))),
    (hanging.over_of, (a_cloth(), ("pick", 1))),
    (hanging.chain_of, (a_cloth(), ("end", 1), ("end", 3))),
    (hanging.chain_of, (a_cloth(), ("end", 1), ("end", 1))),
    (hanging.hangs, (a_cloth(),)),
    (hanging.lifted_with, (a_cloth(), ("pick", 1))),
    (layers.layers_of, (a_cloth(),)),
    (blocks.grown_by, (a_cloth(), cloth.Cloth(2, [1, 2]), cloth.Cloth(2, [3, 0]))),
    (blocks.plan_of, (cloth.Cloth(2, [1, 2]), cloth.Cloth(1, [1]), cloth.Cloth(1, [0]))),
    (apart.woven_at_once, ([a_cloth()],)),
    (apart.woven_at_once, ([a_cloth(), a_cloth()],)),
    (apart.taken_apart, (a_cloth(),)),
    (apart.taken_apart, (cloth.Cloth(2, [1, 2]),)),
    (faults.is_fault, (a_draft(), ("up", 1))),
    (faults.is_fault, (a_draft(), ["up", [1]])),
    (faults.all_faults, (a_draft(),)),
    (faults.found_faults, (a_draft(), weaving.woven(a_draft()))),
    (loom.woven_with, (a_draft(), None)),
    (loom.woven_with, (a_draft(), ("down", 1))),
)

# What is refused, of each function that refuses: the function, what is handed in, the refusal.
REFUSALS = (
    (groups.spread, (["2(", "a"], 60, anything), BadWord),
    (drafttext.read_draft, (["shafts 1"],), BadRow),
    (drafttext.read_draft, ("shafts 1",), BadRow),
    (clothtext.read_cloth, (["#"],), BadRow),
    (readoff.read_off, (cloth.Cloth(17, [1 << place for place in range(17)]),), LoomError),
    (few.fewest_treadles, (cloth.Cloth(5, [1, 2, 4, 8, 16]),), LoomError),
    (draftturns.need_plain, (a_draft(),), LoomError),
    (draftturns.inverted_draft, (a_draft(),), LoomError),
    (draftturns.quartered_draft, (a_draft(),), LoomError),
    (joins.beside, (a_cloth(), cloth.Cloth(1, [1])), BadCloth),
    (joins.below, (a_cloth(), cloth.Cloth(1, [1])), BadCloth),
    (joins.told_over, (a_cloth(), 60, 60), BadCloth),
    (joins.draft_told_over, (a_draft(), 60, 60), BadDraft),
    (blocks.grown_by, (a_cloth(), a_cloth(), cloth.Cloth(1, [1])), BadCloth),
    (blocks.plan_of, (a_cloth(), a_cloth(), a_cloth()), BadCloth),
    (blocks.plan_of, (a_cloth(), cloth.Cloth(3, [1]), cloth.Cloth(3, [2])), LoomError),
    (apart.woven_at_once, ([a_cloth(), cloth.Cloth(1, [1])],), BadCloth),
    (loom.woven_with, (a_draft(), ["up", 1]), BadDraft),
    (loom.Loom, (a_draft(), ["up", [1]]), BadDraft),
    (desk.Desk, (["shafts 1"],), BadRow),
)


class Functions(unittest.TestCase):
    def test_what_is_handed_in_is_not_changed(self):
        for function, given in CALLS:
            handed = copy.deepcopy(given)
            function(*handed)
            self.assertEqual(plain(handed), plain(given), function)

    def test_what_is_handed_in_is_not_kept(self):
        for function, given in CALLS:
            handed = copy.deepcopy(given)
            told = function(*handed)
            before = plain(told)
            changed_within(handed)
            self.assertEqual(plain(told), before, function)
            self.assertEqual(plain(function(*copy.deepcopy(given))), before, function)

    def test_what_is_told_is_the_askers_own(self):
        for function, given in CALLS:
            handed = copy.deepcopy(given)
            told = function(*handed)
            before = copy.deepcopy(plain(told))
            changed_within(told)
            self.assertEqual(plain(handed), plain(given), function)
            self.assertEqual(plain(function(*handed)), before, function)

    def test_what_is_told_twice_is_not_shared(self):
        for function, given in CALLS:
            handed = copy.deepcopy(given)
            one, other = function(*handed), function(*handed)
            if isinstance(one, (list, draft.Draft, cloth.Cloth)):
                self.assertIsNot(one, other, function)
            before = copy.deepcopy(plain(other))
            changed_within(one)
            self.assertEqual(plain(other), before, function)

    def test_nothing_told_is_what_was_handed_in(self):
        for function, given in CALLS:
            handed = copy.deepcopy(given)
            for part in parts_within(function(*handed)):
                self.assertFalse(any(part is other for other in parts_within(handed)), function)

    def test_each_function_of_the_interface_is_called_here(self):
        called = {function for function, _ in CALLS}
        for file, name, _ in interface():
            if "." not in name and name[0].islower():
                self.assertIn(named(file, name), called)

    def test_what_is_refused_stays(self):
        for function, given, refusal in REFUSALS:
            handed = copy.deepcopy(given)
            with self.assertRaises(refusal):
                function(*handed)
            self.assertEqual(plain(handed), plain(given), function)

    def test_a_refusal_changes_no_later_answer(self):
        told = [plain(function(*copy.deepcopy(given))) for function, given in CALLS]
        for function, given, refusal in REFUSALS:
            with self.assertRaises(refusal):
                function(*copy.deepcopy(given))
        self.assertEqual([plain(function(*copy.deepcopy(given))) for function, given in CALLS], told)

    def test_what_is_refused_is_not_changed(self):
        for row in (["2(", "a", "b"], ["2(", "a", ")", ")"], ["a"] * 9, ["2(", "1(", "a"]):
            handed = list(row)
            with self.assertRaises(BadWord):
                groups.spread(handed, 5, anything)
            self.assertEqual(handed, row)
            self.assertEqual(groups.spread(["a", "b"], 5, anything), ["a", "b"])

    def test_a_row_changed_while_it_is_spread(self):
        # The words count as they were handed in, whatever the asker's own closure does.
        row = ["a", "2(", "b", ")"]

        def fits(item):
            row.clear()
            return True

        self.assertEqual(groups.spread(row, 60, fits), ["a", "b", "b"])


class Drafts(unittest.TestCase):
    def test_what_is_handed_in_is_not_changed(self):
        handed = draft_parts()
        made = draft.Draft(*handed)
        made.told(), made.ends(), made.picks()
        self.assertEqual(handed, draft_parts())

    def test_what_is_handed_in_is_not_kept(self):
        for place in range(2, 7):
            handed = draft_parts()
            made = draft.Draft(*handed)
            changed_within(handed[place])
            self.assertEqual(made.told(), tuple(draft_parts()), place)
            self.assertEqual((made.ends(), made.picks()), (3, 3))

    def test_lists_within_are_not_kept(self):
        handed = draft_parts()
        made = draft.Draft(*handed)
        handed[3][1].append(2)
        handed[4][0].clear()
        handed[4][1].append(2)
        self.assertEqual(made.told(), tuple(draft_parts()))

    def test_what_is_told_is_the_askers_own(self):
        made = draft.Draft(*draft_parts())
        for place in range(2, 7):
            told = made.told()
            changed_within(told[place])
            self.assertEqual(made.told(), tuple(draft_parts()), place)
            self.assertEqual((made.ends(), made.picks()), (3, 3))

    def test_what_was_told_stays(self):
        made = draft.Draft(*draft_parts())
        one, other = made.told(), made.told()
        changed_within(one)
        self.assertEqual(other, tuple(draft_parts()))

    def test_alike_lists_are_told_as_lists_of_their_own(self):
        tie, pick = [1], [1, 2]
        told = draft.Draft(1, 2, [1], [tie, tie], [pick, pick], ["a"], ["b", "c"]).told()
        told[3][0].append(9)
        told[4][0].append(9)
        self.assertEqual(told[3][1], [1])
        self.assertEqual(told[4][1], [1, 2])

    def test_drafts_of_the_same_lists_share_nothing(self):
        handed = draft_parts()
        one, other = draft.Draft(*handed), draft.Draft(*handed)
        changed_within(one.told())
        changed_within(handed)
        self.assertEqual(other.told(), tuple(draft_parts()))

    def test_what_is_refused_is_not_changed(self):
        for place in range(7):
            handed = draft_parts()
            handed[place] = ["a", [3, 1], ("b",)]
            before = copy.deepcopy(handed)
            with self.assertRaises(BadDraft):
                draft.Draft(*handed)
            self.assertEqual(handed, before)


class Cloths(unittest.TestCase):
    def test_what_is_handed_in_is_not_changed(self):
        rows = [1, 2, 3]
        made = cloth.Cloth(2, rows)
        made.told(), made.ends(), made.picks(), made.row_at(1), made.column_at(2), made.is_up(1, 3)
        self.assertEqual(rows, [1, 2, 3])

    def test_what_is_handed_in_is_not_kept(self):
        rows = [1, 2, 3]
        made = cloth.Cloth(2, rows)
        changed_within(rows)
        self.assertEqual(made.told(), (2, [1, 2, 3]))
        self.assertEqual([made.picks(), made.row_at(1), made.column_at(1), made.is_up(1, 2)], [3, 1, 5, False])

    def test_what_is_told_is_the_askers_own(self):
        made = cloth.Cloth(2, [1, 2, 3])
        one, other = made.told(), made.told()
        changed_within(one)
        self.assertEqual(other, (2, [1, 2, 3]))
        self.assertEqual(made.told(), (2, [1, 2, 3]))
        self.assertEqual([made.picks(), made.row_at(1), made.column_at(1), made.is_up(1, 2)], [3, 1, 5, False])

    def test_what_is_refused_is_not_changed(self):
        for rows in ([4, 0], [0, -1], [None], [[1]], []):
            handed = copy.deepcopy(rows)
            with self.assertRaises(BadCloth):
                cloth.Cloth(2, handed)
            self.assertEqual(handed, rows)


class Looms(unittest.TestCase):
    def test_what_is_handed_in_is_neither_changed_nor_kept(self):
        handed = a_draft()
        made = loom.Loom(handed, ("down", 1))
        changed_within(handed)
        rows = [made.step(), made.step(), made.step(), made.step()]
        self.assertEqual(handed.told(), tuple(draft_parts()))
        self.assertEqual(rows[:3], loom.woven_with(a_draft(), ("down", 1)).told()[1])
        self.assertIsNone(rows[3])
        # Whatever becomes of the very draft that was handed in.
        made = loom.Loom(handed)
        for name in list(vars(handed)):
            setattr(handed, name, None)
        self.assertEqual([made.step(), made.step(), made.step()], weaving.woven(a_draft()).told()[1])

    def test_what_is_told_is_the_askers_own(self):
        made = loom.Loom(a_draft())
        made.step()
        one, other = made.cloth(), made.cloth()
        self.assertIsNot(one, other)
        changed_within(one)
        made.step()
        self.assertEqual(other.picks(), 1)
        self.assertEqual(made.cloth().told(), (3, weaving.woven(a_draft()).told()[1][:2]))

    def test_what_is_refused_changes_nothing(self):
        made = loom.Loom(a_draft())
        for _ in range(2):
            with self.assertRaises(OutOfPlace):
                made.cloth()
            self.assertEqual(made.pick(), 0)
        self.assertEqual(made.step(), weaving.woven(a_draft()).row_at(1))


class Hands(unittest.TestCase):
    DEEDS = (("thread", 1, 3), ("tie", 2, [2]), ("tread", 2, [1, 2]), ("colour", "warp", 1, "q"), ("put_end", 1, 2, "q"),
             ("put_pick", 1, [2], "q"), ("take_end", 2), ("take_pick", 2), ("tie", 1, [1, 2, 3]), ("undo",), ("undo",))
    WRONG = (("thread", 1, [9]), ("tie", 1, [9, [1]]), ("tread", 1, [9, [1]]), ("colour", "warp", 1, ["q"]),
             ("put_end", 1, [2], ["q"]), ("put_pick", 1, [[2]], ["q"]), ("take_end", [1]), ("take_pick", [1]),
             ("tie", [1], [1]))

    def test_the_draft_that_is_handed_in(self):
        handed = a_draft()
        made = hand.Hand(handed)
        for deed in self.DEEDS:
            getattr(made, deed[0])(*copy.deepcopy(deed[1:]))
            self.assertEqual(handed.told(), tuple(draft_parts()))
        made = hand.Hand(handed)
        for name in list(vars(handed)):
            setattr(handed, name, None)
        self.assertEqual(made.draft().told(), tuple(draft_parts()))

    def test_what_is_handed_in_is_neither_changed_nor_kept(self):
        made = hand.Hand(a_draft())
        for deed in self.DEEDS:
            handed = copy.deepcopy(deed[1:])
            getattr(made, deed[0])(*handed)
            self.assertEqual(handed, deed[1:])
            before = made.draft().told()
            changed_within(handed)
            self.assertEqual(made.draft().told(), before)
            self.assertEqual(made.cloth().told(), weaving.woven(draft.Draft(*before)).told())

    def test_what_is_told_is_the_askers_own(self):
        # Two hands do the same deeds; what the one tells is changed each time.
        one, other = hand.Hand(a_draft()), hand.Hand(a_draft())
        kept = []
        for deed in self.DEEDS + (("undo",),) * 7:
            told = getattr(one, deed[0])(*copy.deepcopy(deed[1:]))
            wanted = getattr(other, deed[0])(*copy.deepcopy(deed[1:]))
            self.assertEqual(told, wanted, deed)
            changed_within(told)
            changed_within(one.draft())
            changed_within(one.cloth())
            self.assertEqual(one.draft().told(), other.draft().told())
            self.assertEqual(one.cloth().told(), other.cloth().told())
            kept.append((wanted, copy.deepcopy(wanted)))
        for told, before in kept:
            self.assertEqual(told, before)
        self.assertEqual(one.draft().told(), tuple(draft_parts()))

    def test_drafts_and_cloths_that_were_told_stay(self):
        made = hand.Hand(a_draft())
        self.assertIsNot(made.draft(), made.draft())
        self.assertIsNot(made.cloth(), made.cloth())
        told_draft, told_cloth = made.draft(), made.cloth()
        wanted = weaving.woven(a_draft()).told()
        for deed in self.DEEDS:
            getattr(made, deed[0])(*copy.deepcopy(deed[1:]))
        self.assertEqual(told_draft.told(), tuple(draft_parts()))
        self.assertEqual(told_cloth.told(), wanted)

    def test_changes_of_a_told_draft_do_not_reach_the_hand(self):
        made = hand.Hand(a_draft())
        told = made.draft()
        for name in list(vars(told)):
            setattr(told, name, None)
        self.assertEqual(made.draft().told(), tuple(draft_parts()))
        made.thread(1, 3)
        made.undo()
        self.assertEqual(made.draft().told(), tuple(draft_parts()))

    def test_what_is_refused_changes_nothing(self):
        made = hand.Hand(a_draft())
        made.thread(1, 3)
        before = made.draft().told()
        for deed in self.WRONG:
            handed = copy.deepcopy(deed[1:])
            with self.assertRaises((BadDraft, OutOfPlace)):
                getattr(made, deed[0])(*handed)
            self.assertEqual(handed, deed[1:])
            self.assertEqual(made.draft().told(), before)
        self.assertEqual(made.undo(), ([], [1]))
        self.assertEqual(made.draft().told(), tuple(draft_parts()))


class Desks(unittest.TestCase):
    def test_questions_change_nothing(self):
        made = desk.Desk(drafttext.draft_text(a_draft()))
        lines = ("draft", "cloth", "seen", "hangs", "layers", "faults ###", "faults #.# / .#. / ...", "x", "thread 9 9", "undo")
        told = [made.say(line) for line in lines]
        for _ in range(3):
            self.assertEqual([made.say(line) for line in lines], told)

    def test_what_is_handed_in_stays(self):
        made = desk.Desk(drafttext.draft_text(a_draft()))
        for thing in (["draft", ["undo"]], [], ("thread", [1], [2])):
            handed = copy.deepcopy(thing)
            self.assertEqual(made.say(handed), "no line")
            self.assertEqual(handed, thing)
