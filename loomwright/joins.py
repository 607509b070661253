"""Cloths joined and told over, and drafts told over."""

from loomwright.bounds import MOST_ENDS, MOST_PICKS
from loomwright.cloth import Cloth
from loomwright.draft import changed_draft
from loomwright.errors import BadCloth, BadDraft
from loomwright.masks import union_of


def beside(one, other):
    if one.picks() != other.picks():
        raise BadCloth("cloths stand beside each other with as many picks")
    ends = one.ends()
    return Cloth(ends + other.ends(), [row | (later << ends) for row, later in zip(one.rows, other.rows)])


def below(one, other):
    if one.ends() != other.ends():
        raise BadCloth("cloths stand below each other with as many ends")
    return Cloth(one.ends(), list(one.rows + other.rows))


def row_over(row, ends, across):
    return union_of([row << (ends * time) for time in range(across)])


# Of a cloth or a draft. Asked ahead of telling over: the counts may be so great that it could never be done.
def goes_over(thing, across, down):
    return thing.ends() * across <= MOST_ENDS and thing.picks() * down <= MOST_PICKS


def told_over(cloth, across, down):
    if not goes_over(cloth, across, down):
        raise BadCloth("a cloth has at most 60 ends and 60 picks")
    ends = cloth.ends()
    return Cloth(ends * across, [row_over(row, ends, across) for row in cloth.rows] * down)


def draft_told_over(draft, across, down):
    if not goes_over(draft, across, down):
        raise BadDraft("a draft has at most 60 ends and 60 picks")
    changes = {
        "threading": list(draft.threading) * across,
        "treading": [list(treadles) for treadles in draft.treading] * down,
        "warp": list(draft.warp) * across,
        "weft": list(draft.weft) * down,
    }
    return changed_draft(draft, changes)
