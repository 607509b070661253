"""Whole numbers, numbers told by words, colours, and the words of a row."""

FIGURES = "0123456789"
MOST_FIGURES = 3
COLOURS = "abcdefghijklmnopqrstuvwxyz"


def is_whole(thing):
    # Python counts True and False among the whole numbers; the document doesn't.
    return isinstance(thing, int) and not isinstance(thing, bool)


def is_among(thing, least, most):
    return is_whole(thing) and least <= thing <= most


def is_colour(thing):
    # The length is asked because "in" would find the empty text and "ab", too.
    return isinstance(thing, str) and len(thing) == 1 and thing in COLOURS


def number_of(word):
    if not isinstance(word, str) or not is_among(len(word), 1, MOST_FIGURES):
        return None
    # Asked sign by sign: isdigit would take figures of other scripts as well.
    if not all([sign in FIGURES for sign in word]):
        return None
    if len(word) > 1 and word.startswith("0"):
        return None
    return int(word)


def number_text(number):
    return str(number)


def number_texts(numbers):
    return [number_text(number) for number in numbers]


# A number, or None, for each word.
def numbers_told(words):
    return [number_of(word) for word in words]


def words_of(row):
    if not isinstance(row, str):
        return None
    words = row.split(" ")
    # A blank too many, wherever it stands, leaves an empty word; so does the empty row.
    if "" in words:
        return None
    return words
