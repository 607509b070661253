"""Cloths grown from a plan by two blocks, and the plan found again."""

from loomwright.cloth import Cloth
from loomwright.errors import BadCloth, NotGrown
from loomwright.masks import mask_of, mask_to, union_of


def need_like_sizes(on, off):
    if on.ends() != off.ends() or on.picks() != off.picks():
        raise BadCloth("blocks are of like sizes")


# A pick of the plan as one of the blocks' picks, of which both blocks' rows are handed in.
def grown_row(plan, pick, on_row, off_row, wide):
    return union_of([
        (on_row if plan.is_up(end, pick) else off_row) << (wide * (end - 1)) for end in range(1, plan.ends() + 1)
    ])


# What comes to more than sixty ends or picks the grown cloth itself refuses to be.
def grown_by(plan, on, off):
    need_like_sizes(on, off)
    wide = on.ends()
    rows = []
    for pick in range(1, plan.picks() + 1):
        rows.extend([grown_row(plan, pick, on_row, off_row, wide) for on_row, off_row in zip(on.rows, off.rows)])
    return Cloth(plan.ends() * wide, rows)


# The rows of the cloth at a place of the plan.
def rows_at(cloth, row, column, wide, high):
    picks = cloth.rows[(row - 1) * high:row * high]
    return tuple([(pick >> (wide * (column - 1))) & mask_to(wide) for pick in picks])


def is_on(cloth, row, column, on, off):
    rows = rows_at(cloth, row, column, on.ends(), on.picks())
    if rows != on.rows and rows != off.rows:
        raise NotGrown(row, column)
    return rows == on.rows


def plan_row(cloth, row, on, off):
    many = cloth.ends() // on.ends()
    return mask_of([column for column in range(1, many + 1) if is_on(cloth, row, column, on, off)])


def plan_of(cloth, on, off):
    need_like_sizes(on, off)
    if on.rows == off.rows:
        raise BadCloth("blocks are unlike")
    if cloth.ends() % on.ends() != 0 or cloth.picks() % on.picks() != 0:
        raise BadCloth("blocks go into the cloth both ways")
    rows = [plan_row(cloth, row, on, off) for row in range(1, cloth.picks() // on.picks() + 1)]
    return Cloth(cloth.ends() // on.ends(), rows)
