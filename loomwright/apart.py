"""Cloths woven at once, one above the other, and cloths taken apart."""

from loomwright.cloth import Cloth
from loomwright.errors import BadCloth
from loomwright.hanging import END, PICK
from loomwright.layers import layers_of
from loomwright.masks import mask_of, mask_to, numbers_of, union_of


def need_at_once(cloths):
    if len(cloths) == 0:
        raise BadCloth("there is a cloth to weave")
    ends = cloths[0].ends()
    picks = cloths[0].picks()
    if not all([cloth.ends() == ends and cloth.picks() == picks for cloth in cloths]):
        raise BadCloth("cloths that are woven at once are of like sizes")


# The ends of the cloth at a place among so many that are up, where a pick of the cloth at own crosses them.
def up_ends(cloth, place, pick, own):
    if place == own:
        return numbers_of(cloth.row_at(pick))
    return numbers_of(mask_to(cloth.ends())) if place < own else []


# The mask of the whole's ends that some ends of the cloth at a place are.
def whole_ends(ends, place, many):
    return mask_of([(end - 1) * many + place for end in ends])


def whole_row(cloths, pick, own):
    many = len(cloths)
    return union_of([
        whole_ends(up_ends(cloth, place, pick, own), place, many) for place, cloth in enumerate(cloths, start=1)
    ])


# What comes to more than sixty ends or picks the whole itself refuses to be.
def woven_at_once(cloths):
    need_at_once(cloths)
    rows = []
    for pick in range(1, cloths[0].picks() + 1):
        rows.extend([whole_row(cloths, pick, own) for own in range(1, len(cloths) + 1)])
    return Cloth(cloths[0].ends() * len(cloths), rows)


def numbers_in(layer, kind):
    return [thread[1] for thread in layer if thread[0] == kind]


def part_row(cloth, ends, pick):
    return mask_of([place for place, end in enumerate(ends, start=1) if cloth.is_up(end, pick)])


def part_of(cloth, layer):
    ends = numbers_in(layer, END)
    picks = numbers_in(layer, PICK)
    if len(ends) == 0 or len(picks) == 0:
        return (ends, picks, None)
    return (ends, picks, Cloth(len(ends), [part_row(cloth, ends, pick) for pick in picks]))


def taken_apart(cloth):
    return [part_of(cloth, layer) for layer in layers_of(cloth)]
