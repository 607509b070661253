"""The colours that are seen of what a draft weaves."""

from loomwright.masks import has_number
from loomwright.weaving import woven


def seen_row(row, warp, thrown):
    return "".join([colour if has_number(row, end) else thrown for end, colour in enumerate(warp, start=1)])


def behind_row(row, warp, thrown):
    colours = [thrown if has_number(row, end) else colour for end, colour in enumerate(warp, start=1)]
    return "".join(reversed(colours))


def seen(draft):
    return [seen_row(row, draft.warp, thrown) for row, thrown in zip(woven(draft).rows, draft.weft)]


def seen_behind(draft):
    return [behind_row(row, draft.warp, thrown) for row, thrown in zip(woven(draft).rows, draft.weft)]
