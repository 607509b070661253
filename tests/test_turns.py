"""[51]: cloths mirrored, upended, inverted, quartered."""

import unittest

from loomwright.cloth import Cloth, from_behind
from loomwright.turns import inverted, mirrored, quartered, upended
from tests.makers import cloth_drawn, crossings, drawn_cloths, small_cloths


def some_cloths():
    return list(small_cloths(4, 4, 8)) + drawn_cloths(52, 40, 60, 60)


class Turns(unittest.TestCase):
    def test_by_hand(self):
        cloth = cloth_drawn("##.", "#..")
        for turn, rows in (
            (mirrored, (".##", "..#")),
            (upended, ("#..", "##.")),
            (inverted, ("..#", ".##")),
            (quartered, ("..", ".#", "##")),
        ):
            self.assertEqual(turn(cloth).told(), cloth_drawn(*rows).told(), turn)
            self.assertIs(type(turn(cloth)), Cloth)

    def test_each_crossing(self):
        for cloth in some_cloths():
            grid = crossings(cloth)
            self.assertEqual(crossings(mirrored(cloth)), tuple(row[::-1] for row in grid))
            self.assertEqual(crossings(upended(cloth)), grid[::-1])
            self.assertEqual(crossings(inverted(cloth)), tuple(tuple(not up for up in row) for row in grid))

    def test_quartered(self):
        for cloth in some_cloths():
            turned = quartered(cloth)
            self.assertEqual((turned.ends(), turned.picks()), (cloth.picks(), cloth.ends()))
            for end in range(1, cloth.ends() + 1):
                for pick in range(1, cloth.picks() + 1):
                    self.assertIs(turned.is_up(pick, end), not cloth.is_up(end, pick))

    def test_each_turn_twice(self):
        for cloth in some_cloths():
            for turn in (mirrored, upended, inverted, quartered):
                self.assertEqual(turn(turn(cloth)).told(), cloth.told())

    def test_mirrored_and_inverted_is_from_behind(self):
        for cloth in some_cloths():
            self.assertEqual(inverted(mirrored(cloth)).told(), from_behind(cloth).told())

    def test_the_bounds(self):
        wide, high = Cloth(60, [2 ** 60 - 2]), Cloth(1, [1] + [0] * 59)
        self.assertEqual(mirrored(wide).told(), (60, [2 ** 59 - 1]))
        self.assertEqual(inverted(wide).told(), (60, [1]))
        self.assertEqual(quartered(wide).told(), (1, [1] + [0] * 59))
        self.assertEqual(upended(high).told(), (1, [0] * 59 + [1]))
        self.assertEqual(quartered(high).told(), (60, [2 ** 60 - 2]))
