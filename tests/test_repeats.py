"""[63], [64]: least repeats, steps, sorts."""

import itertools
import math
import unittest

from loomwright.cloth import Cloth
from loomwright.joins import told_over
from loomwright.repeats import least_repeat, sort_of, step_of
from loomwright.turns import inverted, mirrored, quartered, upended
from tests.makers import cloth_drawn, cloth_of, crossings, drawn_cloths, small_cloths


def reckoned_repeat(grid):
    wide, high = len(grid[0]), len(grid)
    return (next(ends for ends in range(1, wide + 1) if wide % ends == 0
                 and all(row == row[:ends] * (wide // ends) for row in grid)),
            next(picks for picks in range(1, high + 1) if high % picks == 0
                 and grid == grid[:picks] * (high // picks)))


def reckoned_step(grid):
    wide = len(grid[0])
    for step in range(wide):
        if all(grid[pick][end] == grid[pick - 1][(end - step) % wide]
               for pick in range(len(grid)) for end in range(wide)):
            return step
    return None


def reckoned_sort(grid):
    ends, picks = reckoned_repeat(grid)
    grid = tuple(row[:ends] for row in grid[:picks])
    if (ends, picks) == (2, 2) and all(sum(row) == 1 for row in grid) and all(sum(line) == 1 for line in zip(*grid)):
        return "plain"
    step = reckoned_step(grid)
    if ends == picks and ends >= 3 and step in (1, ends - 1):
        return "twill"
    lone = all(sum(row) == 1 for row in grid) or all(sum(row) == ends - 1 for row in grid)
    if ends == picks and ends >= 5 and lone and step is not None and 1 < step < ends - 1:
        return "satin"
    return "other"


def stepped(first, step, picks):
    """A cloth of which each pick is the one ahead turned round to the right."""
    ends = len(first)
    return cloth_of([[first[(end - step * pick) % ends] == "#" for end in range(ends)] for pick in range(picks)])


class LeastRepeat(unittest.TestCase):
    def test_by_hand(self):
        for rows, repeat in (
            (("#",), (1, 1)),
            (("##", "##"), (1, 1)),
            (("#.#.", ".#.#"), (2, 2)),
            (("#.#.", "#.#."), (2, 1)),
            (("##", "..", "##", ".."), (1, 2)),
            (("#.#",), (3, 1)),
            (("#.#.#",), (5, 1)),
            (("#..#..", ".#..#.", "#..#.."), (3, 3)),
            (("##.##.##.", "........."), (3, 2)),
            (("#", "#", ".", "#"), (1, 4)),
        ):
            self.assertEqual(least_repeat(cloth_drawn(*rows)), repeat, rows)
            self.assertIs(type(least_repeat(cloth_drawn(*rows))), tuple)

    def test_all_small_cloths(self):
        for cloth in list(small_cloths(6, 6, 10)) + drawn_cloths(63, 30, 60, 60):
            self.assertEqual(least_repeat(cloth), reckoned_repeat(crossings(cloth)), cloth.told())

    def test_told_over(self):
        for cloth in drawn_cloths(64, 60, 6, 6):
            for across, down in itertools.product((1, 2, 3, 10), repeat=2):
                self.assertEqual(least_repeat(told_over(cloth, across, down)), least_repeat(cloth))


class Step(unittest.TestCase):
    def test_by_hand(self):
        for rows, step in (
            (("#",), 0),
            (("#", "#"), 0),
            (("#", "."), None),
            (("#.#..",), 0),
            (("##", "##"), 0),
            (("....", "...."), 0),
            (("#.#.", ".#.#"), 1),
            (("#..", ".#.", "..#"), 1),
            (("#..", "..#", ".#."), 2),
            (("#..", ".#.", "#.."), None),
            (("#..", ".#."), None),
            (("#....", "..#..", "....#", ".#...", "...#."), 2),
            (("##..", "..##"), 2),
            (("##..", "..##", "##.."), None),
        ):
            self.assertEqual(step_of(cloth_drawn(*rows)), step, rows)

    def test_all_picks_alike(self):
        for ends in (1, 2, 7, 60):
            for row in (0, 1, 2 ** ends - 1):
                for picks in (1, 2, 60):
                    self.assertEqual(step_of(Cloth(ends, [row] * picks)), 0)

    def test_all_small_cloths(self):
        for cloth in list(small_cloths(6, 6, 10)) + drawn_cloths(65, 30, 60, 60):
            self.assertEqual(step_of(cloth), reckoned_step(crossings(cloth)), cloth.told())

    def test_stepped_cloths(self):
        for first in ("#....", "##.#..", "#......", "#.##.#..", "." * 59 + "#"):
            ends = len(first)
            for step in range(ends):
                cloth = stepped(first, step, ends // math.gcd(step, ends))
                self.assertEqual(step_of(cloth), step)
                self.assertEqual(step_of(cloth), reckoned_step(crossings(cloth)))


class Sort(unittest.TestCase):
    def told(self, cloth, sort):
        for turned in (cloth, told_over(cloth, 2, 1), told_over(cloth, 1, 3), told_over(cloth, 2, 2)):
            self.assertEqual(sort_of(turned), sort, turned.told())

    def test_plain(self):
        cloth = cloth_drawn("#.", ".#")
        for turn in (mirrored, upended, inverted, quartered):
            self.told(cloth, "plain")
            self.told(turn(cloth), "plain")
        self.assertEqual(sort_of(told_over(cloth, 30, 30)), "plain")

    def test_nearly_plain(self):
        for rows in (("#.",), ("#.", "#."), ("#", "."), ("##", ".."), ("##", "#."), ("#.", ".."), ("#.#", ".#."),
                     ("#.", ".#", "#."), ("#", "#"), (".",), ("#.#.", ".###")):
            self.told(cloth_drawn(*rows), "other")

    def test_twill(self):
        for first in ("#..", "##.", "#...", "##..", "#.##...", "#....", "####.", "#" + "." * 19):
            ends = len(first)
            for step in (1, ends - 1):
                cloth = stepped(first, step, ends)
                self.told(cloth, "twill")
                for turn in (mirrored, upended, inverted):
                    self.told(turn(cloth), "twill")

    def test_nearly_twill(self):
        self.told(cloth_drawn("#..", ".#."), "other")
        self.told(cloth_drawn("#..", ".#.", ".#."), "other")
        self.told(cloth_drawn("#...", ".#..", "..#.", "..#."), "other")
        self.told(cloth_drawn("#...", ".#..", "...#", "..#."), "other")
        # Of four ends that repeat by two it is the plain one.
        self.assertEqual(sort_of(stepped("#.#.", 1, 4)), "plain")
        self.assertEqual(sort_of(stepped("#.#.", 3, 4)), "plain")

    def test_satin(self):
        for ends, step in ((5, 2), (5, 3), (7, 2), (7, 3), (7, 4), (7, 5), (8, 3), (8, 5), (9, 2), (10, 3), (20, 7)):
            for first in ("#" + "." * (ends - 1), "." + "#" * (ends - 1), "." * (ends - 1) + "#"):
                cloth = stepped(first, step, ends)
                self.told(cloth, "satin")
                for turn in (mirrored, upended, inverted, quartered):
                    self.told(turn(cloth), "satin")

    def test_nearly_satin(self):
        # Steps with which a number but 1 goes into the ends: fewer picks, no satin.
        for ends, step in ((6, 2), (6, 3), (6, 4), (8, 2), (8, 4), (9, 3)):
            cloth = stepped("#" + "." * (ends - 1), step, ends // math.gcd(step, ends))
            self.told(cloth, "other")
        # More ends up than one, and yet not all but one.
        self.told(stepped("##...", 2, 5), "other")
        self.told(stepped("##.....", 3, 7), "other")
        # One crossing of a satin changed.
        grid = [list(row) for row in crossings(stepped("#....", 2, 5))]
        for pick, end in itertools.product(range(5), repeat=2):
            grid[pick][end] = not grid[pick][end]
            self.told(cloth_of(grid), "other")
            grid[pick][end] = not grid[pick][end]
        # One end up at each pick, each end up at one, but by no step.
        self.told(cloth_drawn("#....", "..#..", ".#...", "....#", "...#."), "other")
        # Some picks with one end up, others with one end down.
        self.told(cloth_drawn("#....", "##.##", "....#", "#.###", "...#."), "other")

    def test_all_small_cloths(self):
        for cloth in list(small_cloths(6, 6, 10)) + drawn_cloths(66, 30, 60, 60):
            self.assertEqual(sort_of(cloth), reckoned_sort(crossings(cloth)), cloth.told())

    def test_every_stepped_cloth(self):
        for ends in range(1, 9):
            for mask in range(2 ** ends):
                for step in range(ends):
                    first = format(mask, "b").rjust(ends, "0").replace("1", "#").replace("0", ".")
                    cloth = stepped(first, step, ends)
                    self.assertEqual(sort_of(cloth), reckoned_sort(crossings(cloth)), cloth.told())
