"""Rows of items told by words, with groups: spread to the items, and gathered from them."""

from loomwright.errors import BadWord
from loomwright.words import is_among, number_of, number_text

LEAST_TIMES = 2
MOST_TIMES = 60
OPENING = "("
CLOSING = ")"


# How many times over the group is told that the word opens; None where it is no group's sign.
def times_of(word):
    times = number_of(word[:-1])
    if word.endswith(OPENING) and is_among(times, LEAST_TIMES, MOST_TIMES):
        return times
    return None


# held: the items of the row itself, then those of each open group; times: one number for each open group.
def can_stand(word, held, times, fits):
    if word == CLOSING:
        # An open group without items has its sign right ahead: a group within it would have brought some.
        return len(times) > 0 and len(held[-1]) > 0
    if word.endswith(OPENING):
        return times_of(word) is not None
    return fits(word)


# Takes a word that can stand, and tells by how many the items become more.
def taken(word, held, times):
    if word == CLOSING:
        inner = held.pop()
        many = times.pop()
        held[-1].extend(inner * many)
        return len(inner) * (many - 1)
    if word.endswith(OPENING):
        held.append([])
        times.append(times_of(word))
        return 0
    held[-1].append(word)
    return 1


def spread(words, most, fits):
    row = list(words)
    held = [[]]
    times = []
    count = 0
    for place, word in enumerate(row, start=1):
        if not can_stand(word, held, times, fits):
            raise BadWord(place)
        count += taken(word, held, times)
        # Asked at each word, so that what is held never grows far beyond what is let.
        if count > most:
            raise BadWord(place)
    if len(times) > 0 or len(row) == 0:
        raise BadWord(len(row) + 1)
    return held[0]


# In what follows a span is the items from first to ahead of behind; told has the fewest words of each shorter span.
def as_group(items, first, behind, told):
    length = behind - first
    best = None
    for part in range(1, length // 2 + 1):
        times = length // part
        if length % part != 0 or times > MOST_TIMES:
            continue
        if items[first:behind - part] != items[first + part:behind]:
            continue
        words = told[(first, first + part)]
        if best is None or len(words) + 2 < len(best):
            best = [number_text(times) + OPENING] + words + [CLOSING]
    return best


def fewest_words(items, first, behind, told):
    if behind - first == 1:
        return [items[first]]
    best = as_group(items, first, behind, told)
    for middle in range(first + 1, behind):
        ahead = told[(first, middle)]
        rest = told[(middle, behind)]
        if best is None or len(ahead) + len(rest) < len(best):
            best = ahead + rest
    return best


# A row is one item, one group, or two rows one behind the other; so the fewest words of all spans,
# shorter ones first, come to the fewest of the whole.
def gathered(items):
    row = list(items)
    told = {(0, 0): []}
    for length in range(1, len(row) + 1):
        for first in range(len(row) - length + 1):
            told[(first, first + length)] = fewest_words(row, first, first + length, told)
    return told[(0, len(row))]
