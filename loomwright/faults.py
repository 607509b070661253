"""The faults that a draft's loom can have, and those by which it weaves a cloth."""

from loomwright.gear import BROKEN, DOWN, DRAWN, LOOSE, TIED, UP, Gear
from loomwright.words import is_whole


def lone_faults(kind, most):
    return [(kind, number) for number in range(1, most + 1)]


# Of one treadle, or of one end; the shafts are those of which it has the fault.
def shaft_faults(kind, number, shafts):
    return [(kind, number, shaft) for shaft in shafts]


def loose_faults(draft):
    faults = []
    for treadle, tie in enumerate(draft.ties, start=1):
        faults.extend(shaft_faults(LOOSE, treadle, tie))
    return faults


def tied_faults(draft):
    faults = []
    for treadle, tie in enumerate(draft.ties, start=1):
        untied = [shaft for shaft in range(1, draft.shafts + 1) if shaft not in tie]
        faults.extend(shaft_faults(TIED, treadle, untied))
    return faults


def drawn_faults(draft):
    faults = []
    for end, drawn in enumerate(draft.threading, start=1):
        others = [shaft for shaft in range(draft.shafts + 1) if shaft != drawn]
        faults.extend(shaft_faults(DRAWN, end, others))
    return faults


def all_faults(draft):
    faults = lone_faults(UP, draft.shafts) + lone_faults(DOWN, draft.shafts) + lone_faults(BROKEN, draft.ends())
    return faults + loose_faults(draft) + tied_faults(draft) + drawn_faults(draft)


def is_fault(draft, thing):
    if not isinstance(thing, tuple) or len(thing) == 0 or not isinstance(thing[0], str):
        return False
    # Asked ahead: True and False would be found in the place of 1 and 0.
    return all([is_whole(number) for number in thing[1:]]) and thing in all_faults(draft)


# The cloth has as many ends and picks as the draft.
def weaves_with(draft, fault, cloth):
    gear = Gear(draft, fault)
    for treadles, row in zip(draft.treading, cloth.rows):
        if gear.row_of(treadles) != row:
            return False
    return True


def found_faults(draft, cloth):
    if draft.ends() != cloth.ends() or draft.picks() != cloth.picks():
        return []
    return [fault for fault in all_faults(draft) if weaves_with(draft, fault, cloth)]
