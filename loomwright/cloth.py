"""Cloths: which end lies over which pick."""

from loomwright.bounds import MOST_ENDS, MOST_PICKS
from loomwright.errors import BadCloth
from loomwright.masks import has_number, mask_of, mask_to, other_mask, turned_mask
from loomwright.words import is_among


def need_cloth(ends, rows):
    if not is_among(ends, 1, MOST_ENDS):
        raise BadCloth("ends are 1 to 60")
    if not isinstance(rows, list) or not is_among(len(rows), 1, MOST_PICKS):
        raise BadCloth("rows are a list of 1 to 60 picks")
    if not all([is_among(row, 0, mask_to(ends)) for row in rows]):
        raise BadCloth("a row is a mask of the ends")


class Cloth:
    def __init__(self, ends, rows):
        need_cloth(ends, rows)
        self.width = ends
        # Kept as a tuple: nobody's later change of the list can reach it.
        self.rows = tuple(rows)

    def told(self):
        return (self.width, list(self.rows))

    def ends(self):
        return self.width

    def picks(self):
        return len(self.rows)

    def row_at(self, pick):
        return self.rows[pick - 1]

    def column_at(self, end):
        return mask_of([pick for pick, row in enumerate(self.rows, start=1) if has_number(row, end)])

    def is_up(self, end, pick):
        return has_number(self.rows[pick - 1], end)


def from_behind(cloth):
    ends = cloth.ends()
    return Cloth(ends, [other_mask(turned_mask(row, ends), ends) for row in cloth.rows])
