"""Drafts told by texts: written with the fewest words, and read."""

from loomwright.bounds import MOST_ENDS, MOST_PICKS, MOST_SHAFTS, MOST_TREADLES
from loomwright.draft import Draft
from loomwright.errors import BadRow, BadWord
from loomwright.groups import gathered, spread
from loomwright.words import is_among, is_colour, number_of, number_text, number_texts, numbers_told, words_of

NONE = "-"
TOGETHER = "+"


def tie_words(shafts):
    return number_texts(shafts) if len(shafts) > 0 else [NONE]


def pick_word(treadles):
    return TOGETHER.join(number_texts(treadles)) if len(treadles) > 0 else NONE


def draft_text(draft):
    rows = [["shafts", number_text(draft.shafts)], ["treadles", number_text(draft.treadles)]]
    rows.append(["thread"] + gathered(number_texts(draft.threading)))
    rows.extend([["tie"] + tie_words(tie) for tie in draft.ties])
    rows.append(["tread"] + gathered([pick_word(treadles) for treadles in draft.treading]))
    rows.append(["warp"] + gathered(draft.warp))
    rows.append(["weft"] + gathered(draft.weft))
    return "\n".join([" ".join(row) for row in rows])


# The words behind the name of a row. Rows, and words in them, are numbered from 1 throughout, the name being word 1.
def words_behind(rows, number, name):
    words = words_of(rows[number - 1]) if number <= len(rows) else None
    if words is None:
        raise BadRow(number, 0)
    if words[0] != name:
        raise BadRow(number, 1)
    return words[1:]


def read_count(rows, number, name, most):
    words = words_behind(rows, number, name)
    if len(words) == 0 or not is_among(number_of(words[0]), 1, most):
        raise BadRow(number, 2)
    if len(words) > 1:
        raise BadRow(number, 3)
    return number_of(words[0])


# How many words from the first on are rising numbers from 1 to most.
def rising_words(words, most):
    last = 0
    for many, word in enumerate(words):
        number = number_of(word)
        if not is_among(number, last + 1, most):
            return many
        last = number
    return len(words)


def read_tie(rows, number, shafts):
    words = words_behind(rows, number, "tie")
    if words == [NONE]:
        return []
    # Behind a first - it is the next word that can't stand.
    stand = 1 if words[:1] == [NONE] else rising_words(words, shafts)
    if stand < len(words) or len(words) == 0:
        raise BadRow(number, stand + 2)
    return numbers_told(words)


def read_items(words, number, most, fits):
    try:
        return spread(words, most, fits)
    except BadWord as error:
        # The row's name stands ahead of the words that were spread.
        raise BadRow(number, error.place + 1) from None


def read_threading(rows, number, shafts):
    words = words_behind(rows, number, "thread")
    items = read_items(words, number, MOST_ENDS, lambda word: is_among(number_of(word), 0, shafts))
    return numbers_told(items)


# The words of the treadles that a pick's word tells.
def trodden_words(word):
    return [] if word == NONE else word.split(TOGETHER)


def is_pick_word(word, treadles):
    words = trodden_words(word)
    return rising_words(words, treadles) == len(words)


def read_treading(rows, number, treadles):
    words = words_behind(rows, number, "tread")
    items = read_items(words, number, MOST_PICKS, lambda word: is_pick_word(word, treadles))
    return [numbers_told(trodden_words(item)) for item in items]


def read_colours(rows, number, name, many):
    words = words_behind(rows, number, name)
    colours = read_items(words, number, many, is_colour)
    if len(colours) < many:
        raise BadRow(number, len(words) + 2)
    return colours


def read_draft(text):
    if not isinstance(text, str):
        raise BadRow(1, 0)
    rows = text.split("\n")
    shafts = read_count(rows, 1, "shafts", MOST_SHAFTS)
    treadles = read_count(rows, 2, "treadles", MOST_TREADLES)
    threading = read_threading(rows, 3, shafts)
    ties = [read_tie(rows, 3 + treadle, shafts) for treadle in range(1, treadles + 1)]
    treading = read_treading(rows, treadles + 4, treadles)
    warp = read_colours(rows, treadles + 5, "warp", len(threading))
    weft = read_colours(rows, treadles + 6, "weft", len(treading))
    if len(rows) > treadles + 6:
        raise BadRow(treadles + 7, 0)
    return Draft(shafts, treadles, threading, ties, treading, warp, weft)
