"""Drafts and cloths for the tests, and reckonings of the tests' own."""

import itertools
import random

from loomwright.cloth import Cloth
from loomwright.draft import Draft

# Things that are neither whole numbers nor lists; each is handed in wherever a promise holds "of anything".
STRANGE = (None, True, False, "", "1", "a", "-", (), (1,), ("a",), {}, {1: 1}, {1}, frozenset(), object(), int, len,
           range(1, 3), Exception("words"))


class Odd:
    """A thing that says it is like everything, and breaks when it is told apart by it."""

    def __eq__(self, other):
        raise RuntimeError("compared")

    __hash__ = None


def draft_of(shafts, treadles, threading, ties, treading):
    return Draft(shafts, treadles, threading, ties, treading, ["a"] * len(threading), ["b"] * len(treading))


def drawn_draft(chance, most_shafts=4, most_treadles=4, most_ends=6, most_picks=6):
    shafts, treadles = chance.randint(1, most_shafts), chance.randint(1, most_treadles)
    ends, picks = chance.randint(1, most_ends), chance.randint(1, most_picks)

    def some(most):
        return [number for number in range(1, most + 1) if chance.random() < 0.4]

    return Draft(shafts, treadles, [chance.randint(0, shafts) for _ in range(ends)],
                 [some(shafts) for _ in range(treadles)], [some(treadles) for _ in range(picks)],
                 [chance.choice("abcxyz") for _ in range(ends)], [chance.choice("abcxyz") for _ in range(picks)])


def drawn_drafts(seed, many, **bounds):
    chance = random.Random(seed)
    return [drawn_draft(chance, **bounds) for _ in range(many)]


def drawn_cloth(chance, ends, picks):
    return Cloth(ends, [chance.randrange(1 << ends) for _ in range(picks)])


def drawn_cloths(seed, many, most_ends=8, most_picks=8):
    chance = random.Random(seed)
    return [drawn_cloth(chance, chance.randint(1, most_ends), chance.randint(1, most_picks)) for _ in range(many)]


def cloths_sized(ends, picks):
    """All cloths of a size."""
    for rows in itertools.product(range(1 << ends), repeat=picks):
        yield Cloth(ends, list(rows))


def small_cloths(most_ends, most_picks, most_crossings):
    """All cloths up to a size, those with too many crossings left out."""
    for ends in range(1, most_ends + 1):
        for picks in range(1, most_picks + 1):
            if ends * picks <= most_crossings:
                yield from cloths_sized(ends, picks)


def crossings(cloth):
    """For each pick a tuple of truths, one for each end; by the numbers that the cloth tells alone."""
    ends, rows = cloth.told()
    return tuple(tuple(format(row, "b").rjust(ends, "0")[ends - 1 - place] == "1" for place in range(ends))
                 for row in rows)


def cloth_of(grid):
    """The cloth of such rows of truths."""
    return Cloth(len(grid[0]), [sum(2 ** place for place, up in enumerate(row) if up) for row in grid])


def cloth_drawn(*rows):
    """The cloth of rows such as "#.#."."""
    return cloth_of([[sign == "#" for sign in row] for row in rows])


def reckoned_grid(draft):
    """What a draft weaves, by the words of the document, crossing by crossing."""
    shafts, treadles, threading, ties, treading, warp, weft = draft.told()
    return tuple(tuple(any(shaft in ties[treadle - 1] for treadle in pick) for shaft in threading)
                 for pick in treading)


def plain(thing):
    """A thing without objects: drafts and cloths as they tell themselves, marked by their kind."""
    if isinstance(thing, Draft):
        return ("a draft", thing.told())
    if isinstance(thing, Cloth):
        return ("a cloth", thing.told())
    if isinstance(thing, list):
        return [plain(member) for member in thing]
    if isinstance(thing, tuple):
        return tuple(plain(member) for member in thing)
    return thing
