"""[70], [71]: what lies over what, chains, what comes off with a thread, what hangs together."""

import random
import time
import unittest

from loomwright.cloth import Cloth
from loomwright.hanging import chain_of, hangs, lifted_with, over_of
from tests.makers import cloth_drawn, cloth_of, crossings, drawn_cloth, drawn_cloths, small_cloths


def all_threads(cloth):
    return [("end", end) for end in range(1, cloth.ends() + 1)] + [("pick", pick) for pick in range(1, cloth.picks() + 1)]


def lies_over(grid, upper, lower):
    if upper[0] == lower[0]:
        return False
    if upper[0] == "end":
        return grid[lower[1] - 1][upper[1] - 1]
    return not grid[upper[1] - 1][lower[1] - 1]


def distances(cloth):
    """How many steps the shortest chain from one thread to another has; by going through each thread between."""
    grid, threads = crossings(cloth), all_threads(cloth)
    far = len(threads) + 1
    steps = {(one, other): 0 if one == other else 1 if lies_over(grid, other, one) else far
             for one in threads for other in threads}
    for middle in threads:
        for one in threads:
            for other in threads:
                steps[one, other] = min(steps[one, other], steps[one, middle] + steps[middle, other])
    return {pair: count if count < far else None for pair, count in steps.items()}


def searched_chain(cloth, steps, one, other):
    """The least of the shortest chains: at each thread the least next one from which the rest is short enough."""
    if steps[one, other] is None:
        return None
    grid, chain = crossings(cloth), [one]
    while chain[-1] != other:
        rest = steps[chain[-1], other] - 1
        chain.append(min(thread for thread in all_threads(cloth)
                         if lies_over(grid, thread, chain[-1]) and steps[thread, other] == rest))
    return chain


def long_chain(many):
    """A cloth in which chains must go through every thread: each one lies over just the next, and all others back."""
    return cloth_of([[end > pick + 1 or end == pick for end in range(many)] for pick in range(many)])


class Over(unittest.TestCase):
    def test_by_hand(self):
        cloth = cloth_drawn("#.#", "..#")
        self.assertEqual(over_of(cloth, ("end", 1)), [("pick", 2)])
        self.assertEqual(over_of(cloth, ("end", 2)), [("pick", 1), ("pick", 2)])
        self.assertEqual(over_of(cloth, ("end", 3)), [])
        self.assertEqual(over_of(cloth, ("pick", 1)), [("end", 1), ("end", 3)])
        self.assertEqual(over_of(cloth, ("pick", 2)), [("end", 3)])

    def test_against_the_crossings(self):
        for cloth in list(small_cloths(4, 4, 8)) + drawn_cloths(70, 20, 60, 60):
            grid = crossings(cloth)
            for thread in all_threads(cloth):
                told = over_of(cloth, thread)
                self.assertEqual(told, [other for other in all_threads(cloth) if lies_over(grid, other, thread)])
                self.assertIs(type(told), list)
                self.assertLessEqual({type(upper) for upper in told}, {tuple})


class Chains(unittest.TestCase):
    def test_by_hand(self):
        cloth = cloth_drawn("#.", ".#")
        self.assertEqual(chain_of(cloth, ("end", 1), ("end", 2)), [("end", 1), ("pick", 2), ("end", 2)])
        self.assertEqual(chain_of(cloth, ("end", 1), ("pick", 1)), [("end", 1), ("pick", 2), ("end", 2), ("pick", 1)])
        self.assertEqual(chain_of(cloth, ("end", 1), ("pick", 2)), [("end", 1), ("pick", 2)])
        self.assertEqual(chain_of(cloth, ("pick", 1), ("end", 1)), [("pick", 1), ("end", 1)])

    def test_the_least_of_as_short_ones(self):
        cloth = cloth_drawn(".##.", ".###", "#...")
        self.assertEqual(chain_of(cloth, ("end", 1), ("end", 3)), [("end", 1), ("pick", 1), ("end", 3)])
        self.assertEqual(chain_of(cloth, ("end", 1), ("end", 4)), [("end", 1), ("pick", 2), ("end", 4)])
        self.assertEqual(chain_of(cloth, ("end", 1), ("pick", 3)), [("end", 1), ("pick", 1), ("end", 2), ("pick", 3)])

    def test_none(self):
        cloth = cloth_drawn("##", "##")
        self.assertIsNone(chain_of(cloth, ("end", 1), ("end", 2)))
        self.assertIsNone(chain_of(cloth, ("end", 1), ("pick", 2)))
        self.assertIsNone(chain_of(cloth, ("pick", 1), ("pick", 2)))
        self.assertEqual(chain_of(cloth, ("pick", 1), ("end", 2)), [("pick", 1), ("end", 2)])

    def test_to_itself(self):
        for cloth in (Cloth(1, [0]), Cloth(1, [1]), cloth_drawn("#.", ".#"), Cloth(60, [5] * 60)):
            for thread in all_threads(cloth):
                self.assertEqual(chain_of(cloth, thread, thread), [thread])

    def right(self, cloth):
        steps, threads = distances(cloth), all_threads(cloth)
        for one in threads:
            reached = [other for other in threads if steps[one, other] is not None]
            self.assertEqual(lifted_with(cloth, one), reached)
            for other in threads:
                self.assertEqual(chain_of(cloth, one, other), searched_chain(cloth, steps, one, other),
                                 (cloth.told(), one, other))
        self.assertIs(hangs(cloth), None not in steps.values())

    def test_all_small_cloths(self):
        for cloth in small_cloths(3, 3, 9):
            self.right(cloth)

    def test_all_narrow_cloths(self):
        for cloth in list(small_cloths(4, 2, 8)) + list(small_cloths(2, 4, 8)):
            self.right(cloth)

    def test_drawn_cloths(self):
        chance = random.Random(71)
        for cloth in drawn_cloths(72, 15, 6, 6):
            self.right(cloth)
        # Mostly up, or mostly down, so that not everything hangs together.
        for share in (0.1, 0.2, 0.8, 0.9):
            self.right(cloth_of([[chance.random() < share for _ in range(5)] for _ in range(6)]))

    def test_long_chains(self):
        for many in (1, 2, 3, 4, 5):
            self.right(long_chain(many))


class Great(unittest.TestCase):
    def test_a_chain_through_every_thread(self):
        cloth = long_chain(60)
        began = time.perf_counter()
        # Up from the last end's pick: each pick lies under its own end, that one under the pick ahead.
        chain = chain_of(cloth, ("end", 60), ("pick", 1))
        self.assertEqual(chain[0], ("end", 60))
        self.assertEqual(chain[-1], ("pick", 1))
        grid = crossings(cloth)
        for lower, upper in zip(chain, chain[1:]):
            self.assertTrue(lies_over(grid, upper, lower))
        steps = {thread: place for place, thread in enumerate(chain)}
        self.assertEqual(len(steps), len(chain))
        self.assertGreater(max(len(chain_of(cloth, one, other) or []) for one in (("end", 1), ("end", 60), ("pick", 1))
                               for other in (("end", 1), ("pick", 1), ("pick", 60), ("end", 60))), 100)
        self.assertLess(time.perf_counter() - began, 10)

    def test_told_soon(self):
        chance = random.Random(73)
        began = time.perf_counter()
        for cloth in (drawn_cloth(chance, 60, 60), long_chain(60), Cloth(60, [0] * 60), Cloth(60, [2 ** 60 - 1] * 60)):
            for thread in all_threads(cloth)[::10]:
                lifted_with(cloth, thread)
                chain_of(cloth, thread, ("pick", 60))
            hangs(cloth)
        self.assertLess(time.perf_counter() - began, 20)

    def test_hanging(self):
        chance = random.Random(74)
        self.assertIs(hangs(drawn_cloth(chance, 60, 60)), True)
        self.assertIs(hangs(Cloth(60, [2 ** 60 - 1] * 60)), False)
        self.assertIs(hangs(Cloth(60, [0] * 60)), False)
        self.assertIs(hangs(Cloth(1, [1])), False)
        self.assertIs(hangs(Cloth(1, [0, 1])), False)
        self.assertIs(hangs(cloth_drawn("#.", ".#")), True)
        self.assertEqual(len(lifted_with(cloth_of([[(end + pick) % 2 for end in range(60)] for pick in range(60)]),
                                         ("end", 7))), 120)

    def test_what_comes_off(self):
        cloth = Cloth(60, [2 ** 60 - 1] * 60)
        self.assertEqual(lifted_with(cloth, ("end", 3)), [("end", 3)])
        self.assertEqual(lifted_with(cloth, ("pick", 3)), [("end", end) for end in range(1, 61)] + [("pick", 3)])
