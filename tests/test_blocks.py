"""[80], [81]: cloths grown by blocks, the plan found again, NotGrown."""

import random
import unittest

from loomwright.blocks import grown_by, plan_of
from loomwright.cloth import Cloth
from loomwright.errors import BadCloth, NotGrown
from tests.makers import cloth_drawn, cloth_of, crossings, drawn_cloth, drawn_cloths


def blocks_drawn(seed, many):
    """Plans and blocks, the blocks unlike."""
    chance = random.Random(seed)
    made = []
    while len(made) < many:
        plan = drawn_cloth(chance, chance.randint(1, 6), chance.randint(1, 6))
        ends, picks = chance.randint(1, 4), chance.randint(1, 4)
        on, off = drawn_cloth(chance, ends, picks), drawn_cloth(chance, ends, picks)
        if on.told() != off.told():
            made.append((plan, on, off))
    return made


def reckoned_grown(plan, on, off):
    wide, high = on.ends(), on.picks()
    return tuple(tuple((on if plan.is_up(end // wide + 1, pick // high + 1) else off).is_up(end % wide + 1, pick % high + 1)
                       for end in range(plan.ends() * wide)) for pick in range(plan.picks() * high))


class Grown(unittest.TestCase):
    def refused(self, *given):
        with self.assertRaises(BadCloth) as caught:
            grown_by(*given)
        self.assertIs(type(caught.exception), BadCloth)

    def test_by_hand(self):
        grown = grown_by(cloth_drawn("#.", "##"), cloth_drawn("##.", "..#"), cloth_drawn("...", "#.#"))
        self.assertEqual(grown.told(), cloth_drawn("##....", "..##.#", "##.##.", "..#..#").told())

    def test_each_crossing(self):
        for plan, on, off in blocks_drawn(80, 200):
            grown = grown_by(plan, on, off)
            self.assertIs(type(grown), Cloth)
            self.assertEqual(crossings(grown), reckoned_grown(plan, on, off))

    def test_alike_blocks(self):
        self.assertEqual(grown_by(cloth_drawn("#."), Cloth(1, [1]), Cloth(1, [1])).told(), (2, [3]))

    def test_blocks_of_one_crossing(self):
        for plan in drawn_cloths(81, 20, 60, 60):
            self.assertEqual(grown_by(plan, Cloth(1, [1]), Cloth(1, [0])).told(), plan.told())

    def test_unlike_sizes(self):
        plan = Cloth(1, [1])
        self.refused(plan, Cloth(1, [0]), Cloth(2, [0]))
        self.refused(plan, Cloth(1, [0]), Cloth(1, [0, 0]))
        self.refused(plan, Cloth(2, [0, 0]), Cloth(2, [0]))
        self.refused(plan, Cloth(2, [0, 0, 0]), Cloth(3, [0, 0]))

    def test_just_sixty_and_one_more(self):
        for plan_ends, ends in ((60, 1), (1, 60), (30, 2), (7, 8), (20, 3), (8, 7)):
            plan, block = Cloth(plan_ends, [0]), Cloth(ends, [1])
            self.assertEqual(grown_by(plan, block, block).ends(), plan_ends * ends)
            plan_high, block_high = Cloth(1, [0] * plan_ends), Cloth(1, [1] * ends)
            self.assertEqual(grown_by(plan_high, block_high, block_high).picks(), plan_ends * ends)
        for plan_ends, ends in ((60, 2), (2, 31), (31, 2), (61 // 2, 3), (8, 8), (60, 60)):
            plan, block = Cloth(plan_ends, [0]), Cloth(ends, [1])
            self.refused(plan, block, block)
            plan_high, block_high = Cloth(1, [0] * plan_ends), Cloth(1, [1] * ends)
            self.refused(plan_high, block_high, block_high)
        self.refused(Cloth(60, [0] * 60), Cloth(60, [0] * 60), Cloth(60, [0] * 60))


class Plans(unittest.TestCase):
    def refused(self, *given):
        with self.assertRaises(BadCloth) as caught:
            plan_of(*given)
        self.assertIs(type(caught.exception), BadCloth)

    def not_grown(self, cloth, on, off, row, column):
        with self.assertRaises(NotGrown) as caught:
            plan_of(cloth, on, off)
        self.assertIs(type(caught.exception), NotGrown)
        self.assertEqual((caught.exception.row, caught.exception.column), (row, column))

    def test_found_again(self):
        for plan, on, off in blocks_drawn(82, 200):
            found = plan_of(grown_by(plan, on, off), on, off)
            self.assertIs(type(found), Cloth)
            self.assertEqual(found.told(), plan.told())
            swapped = plan_of(grown_by(plan, on, off), off, on)
            self.assertEqual(crossings(swapped), tuple(tuple(not up for up in row) for row in crossings(plan)))

    def test_a_block_as_great_as_the_cloth(self):
        on, off = cloth_drawn("#.", ".#"), cloth_drawn(".#", "#.")
        self.assertEqual(plan_of(on, on, off).told(), (1, [1]))
        self.assertEqual(plan_of(off, on, off).told(), (1, [0]))

    def test_the_first_place(self):
        on, off = cloth_drawn("##", "#."), cloth_drawn("..", ".#")
        plan = cloth_drawn("#.#", "..#")
        grid = [list(row) for row in crossings(grown_by(plan, on, off))]
        for pick in range(4):
            for end in range(6):
                grid[pick][end] = not grid[pick][end]
                self.not_grown(cloth_of(grid), on, off, pick // 2 + 1, end // 2 + 1)
                # A later place that is neither doesn't matter: later in the row, or in a later row.
                for other_pick, other_end in ((3, 5), (pick, 5), (3, 0)):
                    place, other = (pick // 2, end // 2), (other_pick // 2, other_end // 2)
                    if other > place:
                        grid[other_pick][other_end] = not grid[other_pick][other_end]
                        self.not_grown(cloth_of(grid), on, off, place[0] + 1, place[1] + 1)
                        grid[other_pick][other_end] = not grid[other_pick][other_end]
                grid[pick][end] = not grid[pick][end]

    def test_row_ahead_of_column(self):
        on, off = Cloth(1, [1, 1]), Cloth(1, [0, 0])
        self.not_grown(cloth_drawn("#.#", "#..", "#.#", ".##"), on, off, 1, 3)
        self.not_grown(cloth_drawn("###", "###", "#.#", ".##"), on, off, 2, 1)

    def test_unlike_sizes(self):
        cloth = Cloth(6, [0] * 6)
        self.refused(cloth, Cloth(1, [1]), Cloth(2, [0]))
        self.refused(cloth, Cloth(1, [1]), Cloth(1, [0, 0]))
        self.refused(cloth, Cloth(2, [1, 0, 0]), Cloth(3, [0, 0]))

    def test_alike(self):
        cloth = Cloth(6, [0] * 6)
        for block in (Cloth(1, [0]), Cloth(2, [1, 2]), cloth):
            self.refused(cloth, block, Cloth(*block.told()))
        # Alike rows, but of unlike sizes.
        self.refused(cloth, Cloth(2, [1]), Cloth(3, [1]))

    def test_blocks_that_do_not_go_into_the_cloth(self):
        cloth = Cloth(6, [0] * 6)
        for ends, picks in ((4, 1), (5, 1), (7, 1), (12, 1), (1, 4), (1, 5), (1, 7), (1, 12), (4, 4), (60, 60)):
            self.refused(cloth, Cloth(ends, [1] + [0] * (picks - 1)), Cloth(ends, [0] * picks))
        for ends, picks in ((1, 1), (2, 3), (3, 2), (6, 6), (1, 6), (6, 1)):
            plan = plan_of(cloth, Cloth(ends, [1] + [0] * (picks - 1)), Cloth(ends, [0] * picks))
            self.assertEqual(plan.told(), (6 // ends, [0] * (6 // picks)))

    def test_bad_cloth_ahead_of_not_grown(self):
        cloth = Cloth(6, [63] * 6)
        self.refused(cloth, Cloth(4, [1]), Cloth(4, [0]))
        self.refused(cloth, Cloth(2, [1]), Cloth(2, [1]))
        self.refused(cloth, Cloth(2, [1]), Cloth(3, [1]))
        self.not_grown(cloth, Cloth(2, [1]), Cloth(2, [2]), 1, 1)
