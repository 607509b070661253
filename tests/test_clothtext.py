"""[22]: a cloth's text, and which row and sign is refused."""

import itertools
import unittest

from loomwright.cloth import Cloth
from loomwright.clothtext import cloth_text, read_cloth
from loomwright.errors import BadRow
from tests.makers import STRANGE, Odd, drawn_cloths, small_cloths


def reckoned_refusal(text):
    """The row and sign that can't stand, by the document's words; None where all stand."""
    rows = text.split("\n")
    for row in range(1, len(rows) + 1):
        if row == 61:
            return (61, 0)
        for sign in range(1, 20002):
            lacks = sign > len(rows[row - 1])
            over = sign > (60 if row == 1 else len(rows[0]))
            if row == 1 and lacks and sign > 1 or row > 1 and lacks and over:
                break
            if lacks or over or rows[row - 1][sign - 1] not in "#.":
                return (row, sign)
    return None


class Written(unittest.TestCase):
    def test_some(self):
        self.assertEqual(cloth_text(Cloth(3, [0b001, 0b110])), "#..\n.##")
        self.assertEqual(cloth_text(Cloth(1, [0])), ".")
        self.assertEqual(cloth_text(Cloth(1, [1, 0, 1])), "#\n.\n#")
        self.assertEqual(cloth_text(Cloth(60, [1] * 60)), "\n".join(["#" + "." * 59] * 60))

    def test_there_and_back(self):
        for cloth in list(small_cloths(4, 4, 9)) + drawn_cloths(23, 20, 60, 60):
            text = cloth_text(cloth)
            self.assertIs(type(text), str)
            read = read_cloth(text)
            self.assertIs(type(read), Cloth)
            self.assertEqual(read.told(), cloth.told())
            self.assertEqual(cloth_text(read), text)


class Read(unittest.TestCase):
    def refused(self, text, row, sign):
        with self.assertRaises(BadRow, msg=repr(text)) as caught:
            read_cloth(text)
        self.assertIs(type(caught.exception), BadRow)
        self.assertEqual((caught.exception.row, caught.exception.word), (row, sign), repr(text))

    def test_some(self):
        self.assertEqual(read_cloth("#..\n.##").told(), (3, [0b001, 0b110]))
        self.assertEqual(read_cloth("#").told(), (1, [1]))
        self.assertEqual(read_cloth("." * 60).told(), (60, [0]))
        self.assertEqual(read_cloth("\n".join(["#"] * 60)).told(), (1, [1] * 60))

    def test_another_sign(self):
        for sign in [chr(code) for code in range(32, 127) if chr(code) not in "#.%"]:
            self.refused(sign, 1, 1)
            self.refused("#" + sign, 1, 2)
            self.refused("#." + sign + "x", 1, 3)
            self.refused("#.#\n.#" + sign, 2, 3)
            self.refused("#.#\n" + sign + "..", 2, 1)

    def test_the_sixty_first_sign(self):
        for sign in "#.x ":
            self.refused("#" * 60 + sign, 1, 61)
            self.refused("." * 60 + sign * 100, 1, 61)
        self.refused("#" * 59 + "x#", 1, 60)
        self.refused("#" * 61 + "\n#", 1, 61)
        self.refused("#" * 60 + "\n" + "#" * 61, 2, 61)

    def test_signs_too_many(self):
        self.refused("#\n##", 2, 2)
        self.refused("##\n..\n###", 3, 3)
        self.refused("##\n..\n##x", 3, 3)
        self.refused("##\n..####\n#", 2, 3)
        self.refused("##\nx.####\n#", 2, 1)

    def test_signs_too_few(self):
        self.refused("##\n#", 2, 2)
        self.refused("###\n...\n##", 3, 3)
        self.refused("###\nx", 2, 1)
        self.refused("###\n#x", 2, 2)
        self.refused("#" * 60 + "\n" + "#" * 59, 2, 60)

    def test_empty_rows(self):
        self.refused("", 1, 1)
        self.refused("\n", 1, 1)
        self.refused("\n#", 1, 1)
        self.refused("#\n\n#", 2, 1)
        self.refused("##\n##\n\n", 3, 1)

    def test_a_line_end_at_the_end(self):
        self.refused("#\n", 2, 1)
        self.refused("#.\n.#\n", 3, 1)
        self.refused("#.\n" * 59, 60, 1)

    def test_the_sixty_first_row(self):
        for row in ("#.", "", "#", "###", "x", "##\nx"):
            self.refused("\n".join(["#."] * 60 + [row]), 61, 0)
        self.refused("#.\n" * 60, 61, 0)
        self.refused("#\n" * 5000, 61, 0)

    def test_a_fault_ahead_of_the_sixty_first_row(self):
        for place in (1, 2, 30, 59, 60):
            rows = ["#."] * 70
            rows[place - 1] = "#x"
            self.refused("\n".join(rows), place, 2)
        self.refused("\n" * 100, 1, 1)
        self.refused("#\n" + "\n" * 100, 2, 1)

    def test_no_texts(self):
        for thing in STRANGE + (0, 1, [], ["#"], ["#", "."], Cloth(1, [1]), Odd()):
            if not isinstance(thing, str):
                self.refused(thing, 1, 0)

    def test_every_small_text(self):
        for length in range(0, 7):
            for signs in itertools.product("#.x\n", repeat=length):
                text = "".join(signs)
                refusal = reckoned_refusal(text)
                if refusal is None:
                    self.assertEqual(cloth_text(read_cloth(text)), text)
                else:
                    self.refused(text, *refusal)

    def test_long_texts(self):
        self.refused("#" * 20000, 1, 61)
        self.refused("#" + "\n" * 19999, 2, 1)
