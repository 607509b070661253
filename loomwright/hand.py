"""A hand that changes a draft of its own, deed by deed, and takes deeds back."""

from loomwright.draft import changed_draft
from loomwright.errors import OutOfPlace
from loomwright.weaving import lifts_of, woven
from loomwright.words import is_among

WARP = "warp"
WEFT = "weft"


def need_place(thing, most):
    if not is_among(thing, 1, most):
        raise OutOfPlace("that place isn't there")


def lists_of(tuples):
    return [list(members) for members in tuples]


def replaced_at(members, place, thing):
    return list(members[:place - 1]) + [thing] + list(members[place:])


def put_at(members, place, thing):
    return list(members[:place - 1]) + [thing] + list(members[place - 1:])


def taken_at(members, place):
    return list(members[:place - 1]) + list(members[place:])


# The places, from 1, at which two lists of the same length differ.
def other_places(members, later):
    return [place for place, pair in enumerate(zip(members, later), start=1) if pair[0] != pair[1]]


class Hand:
    def __init__(self, draft):
        self.held = changed_draft(draft, {})
        # For each deed the draft ahead of it, and the picks and ends that are woven again when it is taken back.
        self.past = []

    def draft(self):
        return changed_draft(self.held, {})

    def cloth(self):
        return woven(self.held)

    # Tells the picks and ends that are woven again.
    def bring(self, later, picks, ends):
        self.held = later
        return (list(picks), list(ends))

    # A deed by which no thread comes or goes: taken back, the same is woven again.
    def alter(self, changes):
        later = changed_draft(self.held, changes)
        picks = other_places(lifts_of(self.held), lifts_of(later))
        ends = other_places(self.held.threading, later.threading)
        self.past.append((self.held, picks, ends))
        return self.bring(later, picks, ends)

    def thread(self, end, shaft):
        need_place(end, self.held.ends())
        return self.alter({"threading": replaced_at(self.held.threading, end, shaft)})

    def tie(self, treadle, shafts):
        need_place(treadle, self.held.treadles)
        return self.alter({"ties": replaced_at(lists_of(self.held.ties), treadle, shafts)})

    def tread(self, pick, treadles):
        need_place(pick, self.held.picks())
        return self.alter({"treading": replaced_at(lists_of(self.held.treading), pick, treadles)})

    def colour(self, side, number, colour):
        if not isinstance(side, str) or side not in (WARP, WEFT):
            raise OutOfPlace("a side is warp or weft")
        colours = self.held.warp if side == WARP else self.held.weft
        need_place(number, len(colours))
        return self.alter({side: replaced_at(colours, number, colour)})

    def put_end(self, end, shaft, colour):
        need_place(end, self.held.ends() + 1)
        changes = {"threading": put_at(self.held.threading, end, shaft), "warp": put_at(self.held.warp, end, colour)}
        later = changed_draft(self.held, changes)
        self.past.append((self.held, [], []))
        return self.bring(later, [], [end])

    def put_pick(self, pick, treadles, colour):
        need_place(pick, self.held.picks() + 1)
        treading = put_at(lists_of(self.held.treading), pick, treadles)
        later = changed_draft(self.held, {"treading": treading, "weft": put_at(self.held.weft, pick, colour)})
        self.past.append((self.held, [], []))
        return self.bring(later, [pick], [])

    def take_end(self, end):
        need_place(end, self.held.ends())
        changes = {"threading": taken_at(self.held.threading, end), "warp": taken_at(self.held.warp, end)}
        later = changed_draft(self.held, changes)
        self.past.append((self.held, [], [end]))
        return self.bring(later, [], [])

    def take_pick(self, pick):
        need_place(pick, self.held.picks())
        treading = taken_at(lists_of(self.held.treading), pick)
        later = changed_draft(self.held, {"treading": treading, "weft": taken_at(self.held.weft, pick)})
        self.past.append((self.held, [pick], []))
        return self.bring(later, [], [])

    def undo(self):
        if len(self.past) == 0:
            raise OutOfPlace("there is nothing to take back")
        deed = self.past.pop()
        return self.bring(deed[0], deed[1], deed[2])
