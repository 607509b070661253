"""A desk that answers lines by texts."""

from loomwright.clothtext import cloth_text, read_cloth
from loomwright.colours import seen
from loomwright.drafttext import draft_text, read_draft
from loomwright.errors import BadDraft, BadRow, OutOfPlace
from loomwright.faults import found_faults
from loomwright.hand import Hand
from loomwright.hanging import hangs
from loomwright.layers import layers_of
from loomwright.words import number_of, number_text, number_texts, numbers_told, words_of

PARTING = " / "
NONE = "-"
FAULTS = "faults "
REFUSED = "refused"
NO_LINE = "no line"


def number_words(numbers):
    return " ".join(number_texts(numbers)) if len(numbers) > 0 else "none"


def deed_words(again):
    picks = number_words(again[0])
    ends = number_words(again[1])
    return f"picks {picks}, ends {ends}"


def layer_words(layer):
    return " ".join([thread[0] + number_text(thread[1]) for thread in layer])


def fault_words(fault):
    return " ".join([fault[0]] + number_texts(fault[1:]))


def in_one_line(text):
    return PARTING.join(text.split("\n"))


def faults_answer(hand, rows):
    try:
        cloth = read_cloth("\n".join(rows.split(PARTING)))
    except BadRow:
        return NO_LINE
    faults = found_faults(hand.draft(), cloth)
    return PARTING.join([fault_words(fault) for fault in faults]) if len(faults) > 0 else "none"


def word_answer(hand, word):
    if word == "draft":
        return in_one_line(draft_text(hand.draft()))
    if word == "cloth":
        return in_one_line(cloth_text(hand.cloth()))
    if word == "seen":
        return PARTING.join(seen(hand.draft()))
    if word == "hangs":
        return "yes" if hangs(hand.cloth()) else "no"
    if word == "layers":
        return PARTING.join([layer_words(layer) for layer in layers_of(hand.cloth())])
    if word == "undo":
        return deed_words(hand.undo())
    return NO_LINE


def thread_answer(hand, words):
    numbers = numbers_told(words)
    if len(numbers) != 2 or None in numbers:
        return NO_LINE
    return deed_words(hand.thread(numbers[0], numbers[1]))


# The numbers that the words tell, - alone being told for none; None where they tell no numbers.
def listed_numbers(words):
    if words == [NONE]:
        return []
    numbers = numbers_told(words)
    return None if len(numbers) == 0 or None in numbers else numbers


# deed: a closure that is handed the number of a place and the numbers that are put there.
def list_answer(words, deed):
    place = number_of(words[0])
    numbers = listed_numbers(words[1:])
    if place is None or numbers is None:
        return NO_LINE
    return deed_words(deed(place, numbers))


# The words are those behind the deed's name, one at least.
def deed_answer(hand, name, words):
    if name == "thread":
        return thread_answer(hand, words)
    if name == "tie":
        return list_answer(words, lambda treadle, shafts: hand.tie(treadle, shafts))
    if name == "tread":
        return list_answer(words, lambda pick, treadles: hand.tread(pick, treadles))
    return NO_LINE


def line_answer(hand, line):
    if line.startswith(FAULTS):
        return faults_answer(hand, line[len(FAULTS):])
    words = words_of(line)
    if words is None:
        return NO_LINE
    if len(words) == 1:
        return word_answer(hand, words[0])
    return deed_answer(hand, words[0], words[1:])


class Desk:
    def __init__(self, text):
        self.hand = Hand(read_draft(text))

    def say(self, line):
        if not isinstance(line, str) or "\n" in line:
            return NO_LINE
        try:
            return line_answer(self.hand, line)
        except (BadDraft, OutOfPlace):
            return REFUSED
