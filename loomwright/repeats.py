"""What a cloth is told over of: its least repeat, its step, its sort."""

from loomwright.cloth import Cloth
from loomwright.masks import mask_to, numbers_of
from loomwright.readoff import columns_of

LEAST_TWILL = 3
LEAST_SATIN = 5


# The least number of masks, going into them all, that told over are all of them.
def least_told_over(masks):
    many = len(masks)
    for least in range(1, many):
        if many % least == 0 and masks[least:] == masks[:many - least]:
            return least
    return many


def least_repeat(cloth):
    return (least_told_over(columns_of(cloth)), least_told_over(cloth.rows))


def turned_right(row, ends, step):
    return ((row << step) | (row >> (ends - step))) & mask_to(ends)


def is_step(cloth, step):
    rows = cloth.rows
    # Ahead of the first pick the last one stands.
    ahead = rows[-1:] + rows[:-1]
    return all([turned_right(row, cloth.ends(), step) == later for row, later in zip(ahead, rows)])


def step_of(cloth):
    for step in range(cloth.ends()):
        if is_step(cloth, step):
            return step
    return None


def repeat_cloth(cloth):
    repeat = least_repeat(cloth)
    return Cloth(repeat[0], [row & mask_to(repeat[0]) for row in cloth.rows[:repeat[1]]])


def is_plain(repeat):
    return repeat.ends() == 2 and sorted(repeat.rows) == [1, 2]


def is_twill(repeat):
    ends = repeat.ends()
    return ends == repeat.picks() and ends >= LEAST_TWILL and step_of(repeat) in (1, ends - 1)


def has_lone_ends(repeat):
    counts = [len(numbers_of(row)) for row in repeat.rows]
    return all([count == 1 for count in counts]) or all([count == repeat.ends() - 1 for count in counts])


def is_satin(repeat):
    ends = repeat.ends()
    if ends != repeat.picks() or ends < LEAST_SATIN or not has_lone_ends(repeat):
        return False
    step = step_of(repeat)
    return step is not None and 1 < step < ends - 1


def sort_of(cloth):
    repeat = repeat_cloth(cloth)
    if is_plain(repeat):
        return "plain"
    if is_twill(repeat):
        return "twill"
    if is_satin(repeat):
        return "satin"
    return "other"
