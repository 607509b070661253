"""[20], [21]: cloths, BadCloth of all else, and from behind."""

import unittest

from loomwright.cloth import Cloth, from_behind
from loomwright.errors import BadCloth
from tests.makers import STRANGE, Odd, crossings, drawn_cloths, small_cloths


class Cloths(unittest.TestCase):
    def refused(self, ends, rows):
        with self.assertRaises(BadCloth, msg=repr((ends, rows))) as caught:
            Cloth(ends, rows)
        self.assertIs(type(caught.exception), BadCloth)

    def test_a_cloth(self):
        cloth = Cloth(3, [0b001, 0b110])
        self.assertEqual(cloth.told(), (3, [1, 6]))
        self.assertEqual([type(part) for part in (cloth.told(), cloth.told()[1])], [tuple, list])
        self.assertEqual((cloth.ends(), cloth.picks()), (3, 2))
        self.assertEqual([cloth.row_at(pick) for pick in (1, 2)], [1, 6])
        self.assertEqual([cloth.column_at(end) for end in (1, 2, 3)], [1, 2, 2])
        self.assertEqual([cloth.is_up(end, 1) for end in (1, 2, 3)], [True, False, False])
        self.assertEqual([cloth.is_up(end, 2) for end in (1, 2, 3)], [False, True, True])

    def test_the_bounds(self):
        for ends in (1, 2, 59, 60):
            for picks in (1, 2, 59, 60):
                for row in (0, 1, 2 ** ends - 1, 2 ** (ends - 1)):
                    rows = [row] + [0] * (picks - 1)
                    cloth = Cloth(ends, rows)
                    self.assertEqual(cloth.told(), (ends, rows))
                    self.assertEqual((cloth.ends(), cloth.picks()), (ends, picks))

    def test_great_cloths(self):
        cloth = Cloth(60, [2 ** place for place in range(60)])
        for number in range(1, 61):
            self.assertEqual(cloth.row_at(number), 2 ** (number - 1))
            self.assertEqual(cloth.column_at(number), 2 ** (number - 1))
            self.assertIs(cloth.is_up(number, number), True)
            self.assertIs(cloth.is_up(number, 61 - number), False)
        full = Cloth(60, [2 ** 60 - 1] * 60)
        self.assertEqual({full.column_at(end) for end in range(1, 61)}, {2 ** 60 - 1})

    def test_other_ends(self):
        for ends in STRANGE + (0, -1, 61, 62, 100, 10 ** 30, -10 ** 30, [], [1], Odd()):
            self.refused(ends, [0])
            self.refused(ends, [0, 0])
        self.refused(True, [1])
        self.refused(False, [0])

    def test_other_rows(self):
        for rows in STRANGE + (0, 1, -1, "0", "#.", (0,), (0, 0), {0: 0}, iter([0]), Odd()):
            self.refused(1, rows)
            self.refused(2, rows)

    def test_how_many_rows(self):
        self.refused(1, [])
        for many in (61, 62, 1000):
            self.refused(1, [0] * many)
            self.refused(60, [1] * many)

    def test_a_row_that_is_no_mask(self):
        for thing in STRANGE + (-1, -8, 8, 9, 10 ** 30, -10 ** 30, [], [1], [[0]], Odd()):
            for place in range(4):
                rows = [1, 2, 3, 4]
                rows[place] = thing
                self.refused(3, rows)

    def test_masks_of_the_ends(self):
        for ends in (1, 2, 5, 59, 60):
            for place in (0, 30, 59):
                for row in (2 ** ends, 2 ** ends + 1, 2 ** (ends + 1), 2 ** 60, 2 ** 61, -1, -(2 ** ends)):
                    rows = [0] * 60
                    rows[place] = row
                    self.refused(ends, rows)

    def test_several_at_once(self):
        for ends in STRANGE + (0, 61):
            for rows in STRANGE + ([], [None]):
                self.refused(ends, rows)

    def test_a_list_within_itself(self):
        looped = []
        looped.append(looped)
        self.refused(1, looped)
        self.refused(looped, [0])

    def test_rows_columns_and_crossings(self):
        for cloth in small_cloths(4, 4, 9):
            ends, rows = cloth.told()
            grid = crossings(cloth)
            for pick in range(1, cloth.picks() + 1):
                self.assertEqual(cloth.row_at(pick), rows[pick - 1])
                for end in range(1, ends + 1):
                    self.assertIs(cloth.is_up(end, pick), grid[pick - 1][end - 1])
            for end in range(1, ends + 1):
                column = sum(2 ** place for place, row in enumerate(grid) if row[end - 1])
                self.assertEqual(cloth.column_at(end), column)


class FromBehind(unittest.TestCase):
    def test_some(self):
        self.assertEqual(from_behind(Cloth(3, [0b001, 0b110, 0b000, 0b111])).told(), (3, [0b011, 0b100, 0b111, 0b000]))
        self.assertEqual(from_behind(Cloth(1, [1, 0])).told(), (1, [0, 1]))

    def test_each_crossing(self):
        for cloth in list(small_cloths(4, 4, 9)) + drawn_cloths(21, 20, 60, 60):
            behind = from_behind(cloth)
            self.assertIs(type(behind), Cloth)
            self.assertEqual((behind.ends(), behind.picks()), (cloth.ends(), cloth.picks()))
            wanted = tuple(tuple(not up for up in reversed(row)) for row in crossings(cloth))
            self.assertEqual(crossings(behind), wanted)

    def test_twice(self):
        for cloth in list(small_cloths(4, 4, 9)) + drawn_cloths(22, 20, 60, 60):
            self.assertEqual(from_behind(from_behind(cloth)).told(), cloth.told())
