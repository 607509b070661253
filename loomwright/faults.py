"""The faults that a draft's loom can have, and those by which it weaves a cloth."""

from loomwright.draft import shafts_but
from loomwright.gear import BROKEN, DOWN, DRAWN, LOOSE, TIED, UP, Gear
from loomwright.words import is_whole


def lone_faults(kind, most):
    return [(kind, number) for number in range(1, most + 1)]


# lists: for each treadle or end, the first one first, the shafts of which it has the fault.
def shaft_faults(kind, lists):
    faults = []
    for number, shafts in enumerate(lists, start=1):
        faults.extend([(kind, number, shaft) for shaft in shafts])
    return faults


def all_faults(draft):
    shafts = draft.shafts
    faults = lone_faults(UP, shafts) + lone_faults(DOWN, shafts) + lone_faults(BROKEN, draft.ends())
    faults.extend(shaft_faults(LOOSE, draft.ties))
    faults.extend(shaft_faults(TIED, [shafts_but(tie, 1, shafts) for tie in draft.ties]))
    faults.extend(shaft_faults(DRAWN, [shafts_but([drawn], 0, shafts) for drawn in draft.threading]))
    return faults


def is_fault(draft, thing):
    if not isinstance(thing, tuple) or len(thing) == 0 or not isinstance(thing[0], str):
        return False
    # Asked ahead: True and False would be found in the place of 1 and 0.
    return all([is_whole(number) for number in thing[1:]]) and thing in all_faults(draft)


# The cloth has as many ends and picks as the draft.
def weaves_with(draft, fault, cloth):
    gear = Gear(draft, fault)
    for treadles, row in zip(draft.treading, cloth.rows):
        if gear.row_of(treadles) != row:
            return False
    return True


def found_faults(draft, cloth):
    if draft.ends() != cloth.ends() or draft.picks() != cloth.picks():
        return []
    return [fault for fault in all_faults(draft) if weaves_with(draft, fault, cloth)]
