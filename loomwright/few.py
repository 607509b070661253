"""The fewest treadles, several being trodden together."""

from loomwright.masks import mask_of, numbers_of, union_of
from loomwright.readoff import draft_for, fewest_shown, kinds_of, need_at_most, tie_at

MOST_LIFTED = 4


def lies_within(tie, lift):
    return tie | lift == lift


def is_told(lift, ties):
    return union_of([tie for tie in ties if lies_within(tie, lift)]) == lift


# The first set of at most so many ties, rising, that tells all lifts and begins with the given ties; None of none.
def ties_behind(ties, lifts, many):
    untold = [lift for lift in lifts if not is_told(lift, ties)]
    if len(untold) == 0:
        return ties
    if len(ties) == many:
        return None
    first = ties[-1] + 1 if len(ties) > 0 else 1
    # What lies within a lift isn't greater than it: beyond the least untold one no tie could tell that.
    for tie in range(first, min(untold) + 1):
        # A tie that is of no use to an untold lift could be left out, and there is no telling with fewer.
        if any([lies_within(tie, lift) for lift in untold]):
            found = ties_behind(ties + [tie], untold, many)
            if found is not None:
                return found
    return None


def few_ties(lifts):
    kinds = kinds_of(lifts)
    many = 0
    ties = None
    # It ends: as many ties as there are kinds of lifts, these themselves, would do.
    while ties is None:
        ties = ties_behind([], kinds, many)
        many += 1
    return ties


def trodden_of(lift, ties):
    return [treadle for treadle, tie in enumerate(ties, start=1) if lies_within(tie, lift)]


def fewest_treadles(cloth):
    shown_ends = fewest_shown(cloth)[0]
    need_at_most(MOST_LIFTED, "shafts", len(shown_ends))
    lifts = [mask_of(tie_at(cloth, shown_ends, pick)) for pick in range(1, cloth.picks() + 1)]
    ties = few_ties(lifts)
    treading = [trodden_of(lift, ties) for lift in lifts]
    return draft_for(cloth, [numbers_of(tie) for tie in ties], treading)
