"""[1]: numbers, colours, the words of a row."""

import string
import unittest

from loomwright.words import is_among, is_colour, is_whole, number_of, number_text, words_of

NO_TEXTS = (None, True, False, 0, 1, 12, [], ["1"], ["a"], (), ("1",), ("a",), {}, {"a": 1}, {"a"}, object(), str, len)


class Numbers(unittest.TestCase):
    def test_all_there_and_back(self):
        told = [number_text(number) for number in range(1000)]
        self.assertEqual(len(set(told)), 1000)
        for number, word in enumerate(told):
            self.assertIs(type(word), str)
            self.assertIs(type(number_of(word)), int)
            self.assertEqual(number_of(word), number)

    def test_some_words(self):
        for number, word in ((0, "0"), (7, "7"), (10, "10"), (99, "99"), (100, "100"), (405, "405"), (999, "999")):
            self.assertEqual(number_text(number), word)
            self.assertEqual(number_of(word), number)

    def test_all_words_of_figures(self):
        # Each row of one to four figures is a number's word just where Python would write it so.
        for length in (1, 2, 3, 4):
            for number in range(10 ** length):
                word = str(number).rjust(length, "0")
                wanted = number if length < 4 and word == str(number) else None
                self.assertEqual(number_of(word), wanted, word)

    def test_a_zero_ahead(self):
        for word in ("00", "01", "09", "000", "001", "010", "099", "0000"):
            self.assertIsNone(number_of(word), word)

    def test_too_many_figures(self):
        for word in ("1000", "9999", "0001", "12345", "1" * 20000):
            self.assertIsNone(number_of(word))

    def test_other_signs(self):
        for word in ("", " ", "\n", "a", "1a", "a1", "-", "-1", "+1", "1.", "1.0", "1_0", " 1", "1 ", "1\n", "\n1",
                     "1 2", "(", ")", "2(", "1e1", "0x1", "--", "1-1", "/", ":", "1:", "/1"):
            self.assertIsNone(number_of(word), repr(word))

    def test_each_other_sign(self):
        for code in range(32, 127):
            if chr(code) not in string.digits:
                for word in (chr(code), "1" + chr(code), chr(code) + "1", "1" + chr(code) + "1"):
                    self.assertIsNone(number_of(word), repr(word))

    def test_figures_of_other_scripts(self):
        for word in ("\u00b2", "\u0663", "1\u0663", "\uff11"):
            self.assertIsNone(number_of(word), repr(word))

    def test_no_texts(self):
        for thing in NO_TEXTS:
            self.assertIsNone(number_of(thing), repr(thing))


class WholeNumbers(unittest.TestCase):
    def test_whole(self):
        for thing in (0, 1, -1, 59, 999, 10 ** 30, -10 ** 30):
            self.assertIs(is_whole(thing), True, thing)

    def test_not_whole(self):
        for thing in (True, False, None, "", "1", "a", [], [1], (), (1,), {}, {1: 1}, {1}, object(), int, len):
            self.assertIs(is_whole(thing), False, repr(thing))

    def test_among(self):
        for least, most in ((0, 0), (1, 16), (-3, 3), (1, 60), (5, 4)):
            for thing in range(-5, 70):
                self.assertIs(is_among(thing, least, most), thing in range(least, most + 1), (thing, least, most))

    def test_what_is_no_whole_number_is_among_none(self):
        for thing in (True, False, None, "", "1", [], [1], (), (1,), {}, {1: 1}, {1}, object(), int, len):
            self.assertIs(is_among(thing, 0, 16), False, repr(thing))
            self.assertIs(is_among(thing, -10, 1), False, repr(thing))


class Colours(unittest.TestCase):
    def test_small_letters(self):
        for letter in string.ascii_lowercase:
            self.assertIs(is_colour(letter), True, letter)

    def test_each_other_sign(self):
        for code in range(0, 256):
            if chr(code) not in string.ascii_lowercase:
                self.assertIs(is_colour(chr(code)), False, repr(chr(code)))

    def test_other_texts(self):
        for thing in ("", "ab", "aa", "abc", "xyz", string.ascii_lowercase, "A", "a ", " a", "a\n", "\u00e4", "a1", "-"):
            self.assertIs(is_colour(thing), False, repr(thing))

    def test_no_texts(self):
        for thing in NO_TEXTS:
            self.assertIs(is_colour(thing), False, repr(thing))


class Rows(unittest.TestCase):
    def test_words(self):
        for row, words in (
            ("a", ["a"]),
            ("a b", ["a", "b"]),
            ("thread 1 2 3", ["thread", "1", "2", "3"]),
            ("2( a )", ["2(", "a", ")"]),
            ("- + #.", ["-", "+", "#."]),
            ("~ ! /", ["~", "!", "/"]),
        ):
            self.assertEqual(words_of(row), words)
            self.assertIs(type(words_of(row)), list)

    def test_many_words(self):
        self.assertEqual(words_of(" ".join(["1"] * 10000)), ["1"] * 10000)

    def test_blanks_out_of_place(self):
        for row in (" a", "a ", " a ", "a  b", " a b", "a b ", "a b  c", "a   b", "  a", "a  ", " ", "  ", "   "):
            self.assertIsNone(words_of(row), repr(row))

    def test_the_empty_row(self):
        self.assertIsNone(words_of(""))

    def test_only_a_blank_parts_words(self):
        # The document parts words by blanks alone.
        self.assertEqual(words_of("a\nb c"), ["a\nb", "c"])
        self.assertEqual(words_of("a-b,c"), ["a-b,c"])

    def test_no_texts(self):
        for thing in NO_TEXTS:
            self.assertIsNone(words_of(thing), repr(thing))
