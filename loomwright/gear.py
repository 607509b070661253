"""What lifts the ends of a draft, as a fault has it."""

from loomwright.masks import bit_of, mask_of
from loomwright.weaving import ends_through, lift_by, row_by, shaft_ends

UP = "up"
DOWN = "down"
BROKEN = "broken"
LOOSE = "loose"
TIED = "tied"
DRAWN = "drawn"


# An end that is never lifted is as good as drawn through no shaft.
def threading_with(draft, fault):
    threading = list(draft.threading)
    if fault[0] == BROKEN:
        threading[fault[1] - 1] = 0
    if fault[0] == DRAWN:
        threading[fault[1] - 1] = fault[2]
    return threading


# The ties' masks. A loose shaft was tied and a tied one wasn't: in both cases its bit is the other one.
def ties_with(draft, fault):
    ties = [mask_of(tie) for tie in draft.ties]
    if fault[0] in (LOOSE, TIED):
        ties[fault[1] - 1] ^= bit_of(fault[2])
    return ties


# For each shaft the ends that it lifts when a treadle lifts it: none of a shaft that is never lifted.
def carried_with(draft, fault):
    carried = shaft_ends(threading_with(draft, fault), draft.shafts)
    if fault[0] == DOWN:
        carried[fault[1] - 1] = 0
    return carried


# The fault is one of the draft's, or None.
class Gear:
    def __init__(self, draft, fault):
        told = fault if fault is not None else (None,)
        self.tied = ties_with(draft, told)
        self.carried = carried_with(draft, told)
        self.always_up = ends_through(draft.threading, told[1]) if told[0] == UP else 0

    # The row of a pick at which these treadles are trodden.
    def row_of(self, treadles):
        return self.always_up | row_by(self.carried, lift_by(self.tied, treadles))
