"""[60], [61], [62]: floats, floats round about, unbound threads."""

import unittest

from loomwright.cloth import Cloth
from loomwright.floats import floats_of, round_floats, unbound_of
from tests.makers import cloth_drawn, crossings, drawn_cloths, small_cloths


def threads_of(cloth):
    """For each end where it is up, for each pick where no end is; as lines of truths."""
    grid = crossings(cloth)
    return list(zip(*grid)), [tuple(not up for up in row) for row in grid]


def least_told(found):
    return min(found, key=lambda told: (-told[0], told[1], told[2]), default=(0, 0, 0))


def straight_floats(lines):
    """Every row of crossings within the line, longest first; also rows that could be longer, which don't win."""
    return least_told([(behind - first, thread, first + 1) for thread, line in enumerate(lines, start=1)
                       for first in range(len(line)) for behind in range(first + 1, len(line) + 1)
                       if all(line[first:behind])])


def floats_about(lines):
    """As the point has it: told over for ever; such a float begins behind a crossing that isn't of it."""
    found = []
    for thread, line in enumerate(lines, start=1):
        for first in range(len(line)):
            ahead = line[first - 1] if first else line[-1]
            if line[first] and not ahead:
                told = (line * 3)[first:]
                found.append((told.index(False), thread, first + 1))
    return least_told(found)


class Floats(unittest.TestCase):
    def test_by_hand(self):
        cloth = cloth_drawn("##..#",
                            ".#..#",
                            "...##",
                            "##..#")
        self.assertEqual(floats_of(cloth), ((4, 5, 1), (3, 3, 1)))
        self.assertEqual(round_floats(cloth), ((3, 2, 4), (3, 3, 1)))
        self.assertEqual(unbound_of(cloth), ([3, 5], []))

    def test_over_the_edge(self):
        cloth = cloth_drawn("#.#", "...", "#.#", "#.#")
        self.assertEqual(floats_of(cloth), ((2, 1, 3), (3, 2, 1)))
        self.assertEqual(round_floats(cloth), ((3, 1, 3), (1, 1, 2)))
        self.assertEqual(round_floats(cloth_drawn("..#..")), ((0, 0, 0), (4, 1, 4)))
        self.assertEqual(floats_of(cloth_drawn("..#..")), ((1, 3, 1), (2, 1, 1)))

    def test_none_at_all(self):
        self.assertEqual(floats_of(Cloth(3, [7, 7])), ((2, 1, 1), (0, 0, 0)))
        self.assertEqual(floats_of(Cloth(3, [0, 0])), ((0, 0, 0), (3, 1, 1)))
        self.assertEqual(round_floats(Cloth(3, [7, 7])), ((0, 0, 0), (0, 0, 0)))
        self.assertEqual(round_floats(Cloth(3, [0, 0])), ((0, 0, 0), (0, 0, 0)))

    def test_one_end_one_pick(self):
        self.assertEqual(floats_of(Cloth(1, [1])), ((1, 1, 1), (0, 0, 0)))
        self.assertEqual(floats_of(Cloth(1, [0])), ((0, 0, 0), (1, 1, 1)))
        for row in (0, 1):
            self.assertEqual(round_floats(Cloth(1, [row])), ((0, 0, 0), (0, 0, 0)))
        self.assertEqual(round_floats(Cloth(1, [1, 0, 1])), ((2, 1, 3), (0, 0, 0)))
        self.assertEqual(floats_of(Cloth(1, [1, 0, 1])), ((1, 1, 1), (1, 2, 1)))
        self.assertEqual(round_floats(Cloth(3, [0b010])), ((0, 0, 0), (2, 1, 3)))

    def test_of_as_long_ones(self):
        self.assertEqual(floats_of(cloth_drawn("..#.", "#.#.", "#...", "..##", "..##"))[0], (2, 1, 2))
        self.assertEqual(floats_of(cloth_drawn("..#", "..#", "...", "..#", "..#"))[0], (2, 3, 1))
        self.assertEqual(floats_of(cloth_drawn("##.##.", "..#..#", "..#..#"))[1], (2, 2, 1))

    def test_all_small_cloths(self):
        for cloth in small_cloths(6, 6, 10):
            ends, picks = threads_of(cloth)
            self.assertEqual(floats_of(cloth), (straight_floats(ends), straight_floats(picks)), cloth.told())
            self.assertEqual(round_floats(cloth), (floats_about(ends), floats_about(picks)), cloth.told())

    def test_greater_cloths(self):
        for cloth in drawn_cloths(60, 60, 12, 12) + drawn_cloths(61, 2, 60, 60):
            ends, picks = threads_of(cloth)
            self.assertEqual(floats_of(cloth), (straight_floats(ends), straight_floats(picks)))
            self.assertEqual(round_floats(cloth), (floats_about(ends), floats_about(picks)))

    def test_the_greatest(self):
        full = 2 ** 60 - 1
        self.assertEqual(floats_of(Cloth(60, [full] * 60)), ((60, 1, 1), (0, 0, 0)))
        self.assertEqual(floats_of(Cloth(60, [0] * 60)), ((0, 0, 0), (60, 1, 1)))
        self.assertEqual(round_floats(Cloth(60, [full] * 30 + [full - 1] + [full] * 29)), ((59, 1, 32), (1, 31, 1)))

    def test_kinds(self):
        for function in (floats_of, round_floats):
            told = function(Cloth(2, [1, 2]))
            self.assertEqual([type(told)] + [type(part) for part in told], [tuple] * 3)


class Unbound(unittest.TestCase):
    def test_by_hand(self):
        self.assertEqual(unbound_of(cloth_drawn("##.", "##.", "###")), ([1, 2], [3]))
        self.assertEqual(unbound_of(cloth_drawn("#.", "..")), ([2], [2]))
        self.assertEqual(unbound_of(cloth_drawn("#.", ".#")), ([], []))
        self.assertEqual(unbound_of(Cloth(60, [0] * 60)), (list(range(1, 61)), list(range(1, 61))))

    def test_one_end_one_pick(self):
        self.assertEqual(unbound_of(Cloth(1, [1])), ([1], [1]))
        self.assertEqual(unbound_of(Cloth(1, [1, 0])), ([], [1, 2]))
        self.assertEqual(unbound_of(Cloth(3, [5])), ([1, 2, 3], []))

    def test_all_small_cloths(self):
        for cloth in list(small_cloths(6, 6, 10)) + drawn_cloths(62, 30, 60, 60):
            grid = crossings(cloth)
            wanted = tuple([place for place, line in enumerate(lines, start=1) if len(set(line)) == 1]
                           for lines in (list(zip(*grid)), grid))
            self.assertEqual(unbound_of(cloth), wanted)
            self.assertEqual([type(unbound_of(cloth))] + [type(part) for part in unbound_of(cloth)], [tuple, list, list])
