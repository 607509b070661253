"""Weaving: the shafts that a draft lifts, and the cloth that comes of it."""

from loomwright.cloth import Cloth
from loomwright.masks import mask_of, numbers_of, union_of


# The ties are masks of shafts, the first treadle's first.
def lift_by(ties, treadles):
    return union_of([ties[treadle - 1] for treadle in treadles])


def lifts_of(draft):
    ties = [mask_of(tie) for tie in draft.ties]
    return [lift_by(ties, treadles) for treadles in draft.treading]


def ends_through(threading, shaft):
    return mask_of([end for end, drawn in enumerate(threading, start=1) if drawn == shaft])


# For each shaft the mask of the ends that are drawn through it.
def shaft_ends(threading, shafts):
    return [ends_through(threading, shaft) for shaft in range(1, shafts + 1)]


# carried: as shaft_ends tells it.
def row_by(carried, lift):
    return union_of([carried[shaft - 1] for shaft in numbers_of(lift)])


def woven(draft):
    carried = shaft_ends(draft.threading, draft.shafts)
    return Cloth(draft.ends(), [row_by(carried, lift) for lift in lifts_of(draft)])
