"""Drafts: how a cloth is woven."""

from loomwright.bounds import MOST_ENDS, MOST_PICKS, MOST_SHAFTS, MOST_TREADLES
from loomwright.errors import BadDraft
from loomwright.words import is_among, is_colour

PARTS = ("shafts", "treadles", "threading", "ties", "treading", "warp", "weft")


def need(holds, words):
    if not holds:
        raise BadDraft(words)


def is_list(thing, least, most):
    return isinstance(thing, list) and is_among(len(thing), least, most)


# Whether it is a list of rising numbers from 1 to most, perhaps of none.
def is_rising(thing, most):
    if not isinstance(thing, list):
        return False
    last = 0
    for number in thing:
        if not is_among(number, last + 1, most):
            return False
        last = number
    return True


def are_rising(thing, most):
    return all([is_rising(numbers, most) for numbers in thing])


def are_colours(thing, many):
    return is_list(thing, many, many) and all([is_colour(colour) for colour in thing])


def need_draft(shafts, treadles, threading, ties, treading, warp, weft):
    need(is_among(shafts, 1, MOST_SHAFTS), "shafts are 1 to 16")
    need(is_among(treadles, 1, MOST_TREADLES), "treadles are 1 to 16")
    need(is_list(threading, 1, MOST_ENDS), "a threading is a list of 1 to 60 ends")
    need(all([is_among(shaft, 0, shafts) for shaft in threading]), "an end goes through a shaft, or 0 for none")
    need(is_list(ties, treadles, treadles), "ties are a list, one for each treadle")
    need(are_rising(ties, shafts), "a tie is a list of rising shafts")
    need(is_list(treading, 1, MOST_PICKS), "a treading is a list of 1 to 60 picks")
    need(are_rising(treading, treadles), "a pick is a list of rising treadles")
    need(are_colours(warp, len(threading)), "the warp is a list of colours, one for each end")
    need(are_colours(weft, len(treading)), "the weft is a list of colours, one for each pick")


class Draft:
    def __init__(self, shafts, treadles, threading, ties, treading, warp, weft):
        need_draft(shafts, treadles, threading, ties, treading, warp, weft)
        self.shafts = shafts
        self.treadles = treadles
        # Kept as tuples: nobody's later change of a list can reach them.
        self.threading = tuple(threading)
        self.ties = tuple([tuple(tie) for tie in ties])
        self.treading = tuple([tuple(pick) for pick in treading])
        self.warp = tuple(warp)
        self.weft = tuple(weft)

    def told(self):
        return (
            self.shafts,
            self.treadles,
            list(self.threading),
            [list(tie) for tie in self.ties],
            [list(pick) for pick in self.treading],
            list(self.warp),
            list(self.weft),
        )

    def ends(self):
        return len(self.threading)

    def picks(self):
        return len(self.treading)


# A new draft like the given one, but for the parts that are handed in by their names.
def changed_draft(draft, changes):
    parts = dict(zip(PARTS, draft.told()))
    parts.update(changes)
    return Draft(
        parts["shafts"],
        parts["treadles"],
        parts["threading"],
        parts["ties"],
        parts["treading"],
        parts["warp"],
        parts["weft"],
    )


# The shafts from least to most that aren't among those left out.
def shafts_but(left_out, least, most):
    return [shaft for shaft in range(least, most + 1) if shaft not in left_out]
