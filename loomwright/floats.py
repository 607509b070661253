"""Floats: crossings in a row at which one thread lies on top; and threads that nothing binds."""

from loomwright.masks import has_number, mask_to, other_mask
from loomwright.readoff import columns_of


# The place so many steps behind a place, where the first one comes behind the last.
def place_behind(place, steps, places):
    return (place - 1 + steps) % places + 1


# Some place is to be there at which the row ends.
def run_length(mask, first, places):
    length = 1
    while has_number(mask, place_behind(first, length, places)):
        length += 1
    return length


# The places at which a row begins round about; none of a row without end.
def run_firsts(mask, places):
    return [
        place
        for place in range(1, places + 1)
        if has_number(mask, place) and not has_number(mask, place_behind(place, places - 1, places))
    ]


def longest_float(masks, places):
    longest = (0, 0, 0)
    for thread, mask in enumerate(masks, start=1):
        for first in run_firsts(mask, places):
            length = run_length(mask, first, places)
            # Of as long ones the one that comes first stays.
            if length > longest[0]:
                longest = (length, thread, first)
    return longest


# For each pick the mask of the ends that aren't up.
def covered_ends(cloth):
    return [other_mask(row, cloth.ends()) for row in cloth.rows]


def floats_of(cloth):
    # With one place more, at which no thread floats, no float runs over the edge, and each one ends.
    of_ends = longest_float(columns_of(cloth), cloth.picks() + 1)
    of_picks = longest_float(covered_ends(cloth), cloth.ends() + 1)
    return (of_ends, of_picks)


def round_floats(cloth):
    return (longest_float(columns_of(cloth), cloth.picks()), longest_float(covered_ends(cloth), cloth.ends()))


def unbound_threads(masks, places):
    return [thread for thread, mask in enumerate(masks, start=1) if mask in (0, mask_to(places))]


def unbound_of(cloth):
    return (unbound_threads(columns_of(cloth), cloth.picks()), unbound_threads(cloth.rows, cloth.ends()))
