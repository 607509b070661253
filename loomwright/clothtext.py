"""Cloths told by texts: a row for each pick, a sign for each end."""

from loomwright.bounds import MOST_ENDS, MOST_PICKS
from loomwright.cloth import Cloth
from loomwright.errors import BadRow
from loomwright.masks import mask_of

UP = "#"
NOT_UP = "."


def row_text(cloth, pick):
    return "".join([UP if cloth.is_up(end, pick) else NOT_UP for end in range(1, cloth.ends() + 1)])


def cloth_text(cloth):
    return "\n".join([row_text(cloth, pick) for pick in range(1, cloth.picks() + 1)])


def row_mask(row):
    return mask_of([end for end, sign in enumerate(row, start=1) if sign == UP])


def need_row(row, number, least, most):
    if number > MOST_PICKS:
        raise BadRow(number, 0)
    for place, sign in enumerate(row, start=1):
        if place > most or sign not in (UP, NOT_UP):
            raise BadRow(number, place)
    if len(row) < least:
        raise BadRow(number, len(row) + 1)


def read_cloth(text):
    if not isinstance(text, str):
        raise BadRow(1, 0)
    rows = text.split("\n")
    need_row(rows[0], 1, 1, MOST_ENDS)
    ends = len(rows[0])
    for number, row in enumerate(rows, start=1):
        need_row(row, number, ends, ends)
    return Cloth(ends, [row_mask(row) for row in rows])
