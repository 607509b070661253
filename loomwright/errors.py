"""The refusals of the program: LoomError is any of them, the others stand straight under it."""


class LoomError(ValueError):
    pass


# A text's row that can't stand, and in it the word or sign; 0 for the row as a whole.
class BadRow(LoomError):
    def __init__(self, row, word):
        LoomError.__init__(self, f"row {row}, word {word} can't stand")
        self.row = row
        self.word = word


# A word, by its number in a row of words, that can't stand.
class BadWord(LoomError):
    def __init__(self, place):
        LoomError.__init__(self, f"word {place} can't stand")
        self.place = place


# More shafts or treadles than a draft can have.
class TooMany(LoomError):
    def __init__(self, what, many):
        LoomError.__init__(self, f"{many} {what} are too many")
        self.what = what
        self.many = many


# The end or pick by which a draft isn't plain.
class NotPlain(LoomError):
    def __init__(self, what, number):
        LoomError.__init__(self, f"{what} {number} isn't plain")
        self.what = what
        self.number = number


# The place of a plan at which neither block stands.
class NotGrown(LoomError):
    def __init__(self, row, column):
        LoomError.__init__(self, f"neither block stands at row {row}, column {column}")
        self.row = row
        self.column = column


class BadDraft(LoomError):
    pass


class BadCloth(LoomError):
    pass


class OutOfPlace(LoomError):
    pass
