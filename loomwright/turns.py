"""Cloths turned."""

from loomwright.cloth import Cloth
from loomwright.masks import other_mask, turned_mask


def mirrored(cloth):
    return Cloth(cloth.ends(), [turned_mask(row, cloth.ends()) for row in cloth.rows])


def upended(cloth):
    return Cloth(cloth.ends(), list(reversed(cloth.rows)))


def inverted(cloth):
    return Cloth(cloth.ends(), [other_mask(row, cloth.ends()) for row in cloth.rows])


def quartered(cloth):
    picks = cloth.picks()
    return Cloth(picks, [other_mask(cloth.column_at(end), picks) for end in range(1, cloth.ends() + 1)])
