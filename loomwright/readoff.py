"""Drafts read off cloths, one treadle a pick."""

from loomwright.bounds import MOST_SHAFTS, MOST_TREADLES
from loomwright.draft import Draft
from loomwright.errors import TooMany

WARP_COLOUR = "a"
WEFT_COLOUR = "b"


# For each mask its number, in the order in which the kinds come; 0 stands ahead, so that the first other one is 1.
def numbered_kinds(masks):
    numbers = {0: 0}
    for mask in masks:
        if mask not in numbers:
            numbers[mask] = len(numbers)
    return numbers


def kind_numbers(masks):
    numbers = numbered_kinds(masks)
    return [numbers[mask] for mask in masks]


def kinds_of(masks):
    return list(numbered_kinds(masks))[1:]


def columns_of(cloth):
    return [cloth.column_at(end) for end in range(1, cloth.ends() + 1)]


# The places, from 1, at which each kind first comes.
def first_places(masks):
    return [masks.index(kind) + 1 for kind in kinds_of(masks)]


def fewest_shown(cloth):
    return (first_places(columns_of(cloth)), first_places(list(cloth.rows)))


# One end that is shown stands for all ends of its shaft: their columns are alike.
def tie_at(cloth, shown_ends, pick):
    return [shaft for shaft, end in enumerate(shown_ends, start=1) if cloth.is_up(end, pick)]


def need_at_most(most, what, many):
    if many > most:
        raise TooMany(what, many)


# The draft of a cloth by its treadles' ties and by what its picks tread; without ties it has one treadle all the same.
def draft_for(cloth, ties, treading):
    threading = kind_numbers(columns_of(cloth))
    told = ties if len(ties) > 0 else [[]]
    warp = [WARP_COLOUR] * cloth.ends()
    weft = [WEFT_COLOUR] * cloth.picks()
    return Draft(max(1, max(threading)), len(told), threading, told, treading, warp, weft)


def read_off(cloth):
    shown = fewest_shown(cloth)
    need_at_most(MOST_SHAFTS, "shafts", len(shown[0]))
    need_at_most(MOST_TREADLES, "treadles", len(shown[1]))
    ties = [tie_at(cloth, shown[0], pick) for pick in shown[1]]
    treading = [[treadle] if treadle > 0 else [] for treadle in kind_numbers(cloth.rows)]
    return draft_for(cloth, ties, treading)
