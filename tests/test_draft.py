"""[4]: drafts, and BadDraft of all else."""

import unittest

from loomwright.draft import Draft
from loomwright.errors import BadDraft

FIELDS = ("shafts", "treadles", "threading", "ties", "treading", "warp", "weft")

NO_LISTS = (None, True, False, 0, 1, -1, 3, "", "a", "aaa", "1", (), (1,), (1, 2, 3), ("a", "a", "a"), ([1], [2]), {},
            {1: 1}, {1: [1]}, {1, 2, 3}, range(1, 3), object(), list, len, iter([1, 2, 3]))
NO_NUMBERS = (None, True, False, "", "1", "a", [], [1], (), (1,), {}, {1}, object(), int, len)
NO_COLOURS = (None, True, False, 0, 1, "", "A", "aa", "ab", "1", " ", "-", "~", "a ", ["a"], ("a",), {"a"}, object())


def parts(**changed):
    """A draft's seven parts: three shafts, two treadles, four ends, three picks."""
    made = {
        "shafts": 3,
        "treadles": 2,
        "threading": [1, 0, 3, 2],
        "ties": [[1, 3], [2]],
        "treading": [[1], [], [1, 2]],
        "warp": ["a", "b", "a", "z"],
        "weft": ["c", "d", "c"],
    }
    made.update(changed)
    return made


def sized(shafts, treadles, ends, picks):
    return parts(shafts=shafts, treadles=treadles, threading=[shafts] * ends, ties=[[shafts]] * treadles,
                 treading=[[treadles]] * picks, warp=["a"] * ends, weft=["b"] * picks)


def changed_at(members, place, thing):
    return members[:place] + [thing] + members[place + 1:]


class Drafts(unittest.TestCase):
    def made(self, given):
        draft = Draft(**given)
        self.assertEqual(draft.told(), tuple(given[field] for field in FIELDS))
        self.assertEqual(draft.ends(), len(given["threading"]))
        self.assertEqual(draft.picks(), len(given["treading"]))
        return draft

    def refused(self, **changed):
        with self.assertRaises(BadDraft, msg=repr(changed)) as caught:
            Draft(**parts(**changed))
        self.assertIs(type(caught.exception), BadDraft)

    def test_a_draft(self):
        draft = self.made(parts())
        self.assertIs(type(draft.told()), tuple)
        self.assertEqual([type(part) for part in draft.told()], [int, int, list, list, list, list, list])
        self.assertEqual([type(tie) for tie in draft.told()[3]], [list, list])
        self.assertEqual([type(pick) for pick in draft.told()[4]], [list, list, list])
        self.assertEqual((draft.ends(), draft.picks()), (4, 3))

    def test_the_arguments_in_their_order(self):
        draft = Draft(1, 2, [0, 1], [[], [1]], [[1, 2]], ["x", "y"], ["z"])
        self.assertEqual(draft.told(), (1, 2, [0, 1], [[], [1]], [[1, 2]], ["x", "y"], ["z"]))
        self.assertEqual((draft.ends(), draft.picks()), (2, 1))

    def test_the_bounds(self):
        for shafts in (1, 2, 15, 16):
            for treadles in (1, 2, 15, 16):
                for ends in (1, 2, 59, 60):
                    for picks in (1, 2, 59, 60):
                        self.made(sized(shafts, treadles, ends, picks))

    def test_beyond_the_bounds(self):
        for sizes in ((0, 1, 1, 1), (17, 1, 1, 1), (1, 0, 1, 1), (1, 17, 1, 1), (1, 1, 0, 1), (1, 1, 61, 1),
                      (1, 1, 1, 0), (1, 1, 1, 61), (-1, 1, 1, 1), (1, -1, 1, 1), (100, 1, 1, 1), (1, 1, 1000, 1)):
            self.refused(**sized(*sizes))

    def test_nothing_tied_or_trodden(self):
        self.made(parts(threading=[0, 0, 0, 0], ties=[[], []], treading=[[], [], []]))

    def test_all_tied_and_trodden(self):
        every = list(range(1, 17))
        self.made(parts(shafts=16, treadles=16, ties=[list(every) for _ in every], treading=[list(every)] * 3))

    def test_shafts_of_the_threading(self):
        for shaft in range(-2, 20):
            threading = [1, shaft, 2, 3]
            if 0 <= shaft <= 3:
                self.made(parts(threading=threading))
            else:
                self.refused(threading=threading)

    def test_shafts_of_a_tie(self):
        for shaft in range(-2, 20):
            ties = [[], [shaft]]
            if 1 <= shaft <= 3:
                self.made(parts(ties=ties))
            else:
                self.refused(ties=ties)

    def test_treadles_of_a_pick(self):
        for treadle in range(-2, 20):
            treading = [[1, 2], [], [treadle]]
            if 1 <= treadle <= 2:
                self.made(parts(treading=treading))
            else:
                self.refused(treading=treading)

    def test_numbers_that_do_not_rise(self):
        for numbers in ([1, 1], [2, 1], [2, 2], [1, 2, 2], [1, 2, 1], [2, 1, 2], [0, 1], [-1, 1], [1, 3, 2], [3, 2, 1]):
            self.refused(ties=[numbers, [2]])
            self.refused(ties=[[1], numbers])
            self.refused(treadles=3, ties=[[], [], []], treading=[[1], numbers, []])
            self.refused(treadles=3, ties=[[], [], []], treading=[[1], [2], numbers])
        for numbers in ([], [1], [3], [1, 2], [1, 3], [2, 3], [1, 2, 3]):
            self.made(parts(treadles=3, ties=[numbers, [], numbers], treading=[numbers, [1], numbers]))

    def test_other_lengths(self):
        for ties in ([], [[1]], [[1], [2], [3]], [[]] * 16):
            self.refused(ties=ties)
        for warp in ([], ["a"] * 3, ["a"] * 5, ["a"] * 60):
            self.refused(warp=warp)
        for weft in ([], ["a"] * 2, ["a"] * 4, ["a"] * 60):
            self.refused(weft=weft)
        for threading in ([], [1], [1] * 3, [1] * 5):
            self.refused(threading=threading)
        for treading in ([], [[1]], [[1]] * 2, [[1]] * 4):
            self.refused(treading=treading)

    def test_other_shafts_and_treadles(self):
        for field in ("shafts", "treadles"):
            for thing in NO_NUMBERS + (0, -1, 17, 60, 10 ** 30, -10 ** 30):
                self.refused(**{field: thing})
        # Ones with which all else would do.
        self.refused(shafts=0, threading=[0] * 4, ties=[[], []])
        self.refused(shafts=17, threading=[17] * 4, ties=[[17], []])
        self.refused(treadles=0, ties=[], treading=[[], [], []])
        self.refused(treadles=17, ties=[[]] * 17, treading=[[17], [], []])
        self.refused(shafts=True, threading=[1] * 4, ties=[[1], []])
        self.refused(treadles=True, ties=[[1]], treading=[[1], [], [1]])

    def test_where_a_list_is_asked(self):
        for field in ("threading", "ties", "treading", "warp", "weft"):
            for thing in NO_LISTS:
                self.refused(**{field: thing})
        for field in ("ties", "treading"):
            given = parts()[field]
            for place in range(len(given)):
                for thing in NO_LISTS:
                    self.refused(**{field: changed_at(given, place, thing)})

    def test_tuples_of_what_would_do_as_lists(self):
        for field in ("threading", "ties", "treading", "warp", "weft"):
            self.refused(**{field: tuple(parts()[field])})
        self.refused(ties=[(1, 3), (2,)])
        self.refused(ties=[[1, 3], ()])
        self.refused(treading=[(1,), (), (1, 2)])
        self.refused(warp="abaz")
        self.refused(weft="cdc")

    def test_where_a_number_is_asked(self):
        for thing in NO_NUMBERS:
            for place in range(4):
                self.refused(threading=changed_at([1, 1, 1, 1], place, thing))
            for place in range(2):
                self.refused(ties=[[1], changed_at([1, 2], place, thing)])
                self.refused(treading=[[1], changed_at([1, 2], place, thing), [1]])
            self.refused(ties=[[thing], [1]])
            self.refused(treading=[[1], [1], [thing]])

    def test_where_a_colour_is_asked(self):
        for thing in NO_COLOURS:
            for place in range(4):
                self.refused(warp=changed_at(parts()["warp"], place, thing))
            for place in range(3):
                self.refused(weft=changed_at(parts()["weft"], place, thing))

    def test_a_list_within_itself(self):
        looped = []
        looped.append(looped)
        for field in ("shafts", "treadles", "threading", "warp", "weft"):
            self.refused(**{field: looped})
        self.refused(ties=[looped, []])
        self.refused(treading=[looped, [], []])

    def test_several_at_once(self):
        for thing in (None, 0, "a", [], (), {}):
            with self.assertRaises(BadDraft):
                Draft(thing, thing, thing, thing, thing, thing, thing)
