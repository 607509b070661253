"""[72]: layers, from above downwards."""

import random
import time
import unittest

from loomwright.cloth import Cloth
from loomwright.hanging import hangs
from loomwright.layers import layers_of
from tests.makers import cloth_drawn, cloth_of, crossings, drawn_cloth, drawn_cloths, small_cloths
from tests.test_hanging import all_threads, distances, lies_over, long_chain


def reckoned_layers(cloth):
    steps, threads, grid = distances(cloth), all_threads(cloth), crossings(cloth)
    waiting = []
    for thread in threads:
        if not any(thread in layer for layer in waiting):
            waiting.append([other for other in threads
                            if steps[thread, other] is not None and steps[other, thread] is not None])
    told = []
    while waiting:
        ready = [layer for layer in waiting
                 if not any(lies_over(grid, upper, lower) for other in waiting if other != layer
                            for upper in other for lower in layer)]
        told.append(min(ready))
        waiting.remove(told[-1])
    return told


class Layers(unittest.TestCase):
    def test_by_hand(self):
        self.assertEqual(layers_of(cloth_drawn("#.", ".#")), [[("end", 1), ("end", 2), ("pick", 1), ("pick", 2)]])
        self.assertEqual(layers_of(cloth_drawn("##", "##")), [[("end", 1)], [("end", 2)], [("pick", 1)], [("pick", 2)]])
        self.assertEqual(layers_of(cloth_drawn("..", "..")), [[("pick", 1)], [("pick", 2)], [("end", 1)], [("end", 2)]])
        # The third end lies over all, beneath it a plain cloth, then a pick that lies under all.
        self.assertEqual(layers_of(cloth_drawn("#.#", ".##", "###")),
                         [[("end", 3)], [("end", 1), ("end", 2), ("pick", 1), ("pick", 2)], [("pick", 3)]])
        # Two plain cloths, that of the even threads above.
        self.assertEqual(layers_of(cloth_drawn("##.#", ".#..", ".###", "...#")), [
            [("end", 2), ("end", 4), ("pick", 2), ("pick", 4)], [("end", 1), ("end", 3), ("pick", 1), ("pick", 3)]])

    def test_of_those_that_could_come_next(self):
        # The picks lie over the first end, the second end over all.
        self.assertEqual(layers_of(cloth_drawn(".#", ".#")), [[("end", 2)], [("pick", 1)], [("pick", 2)], [("end", 1)]])
        # The third end could stand with the first one, above the pick.
        self.assertEqual(layers_of(cloth_drawn("#.#")), [[("end", 1)], [("end", 3)], [("pick", 1)], [("end", 2)]])

    def test_one_end_one_pick(self):
        self.assertEqual(layers_of(Cloth(1, [1])), [[("end", 1)], [("pick", 1)]])
        self.assertEqual(layers_of(Cloth(1, [0])), [[("pick", 1)], [("end", 1)]])
        self.assertEqual(layers_of(Cloth(1, [1, 0, 1])), [[("pick", 2)], [("end", 1)], [("pick", 1)], [("pick", 3)]])

    def right(self, cloth):
        layers = layers_of(cloth)
        self.assertIs(type(layers), list)
        grid = crossings(cloth)
        # Each thread in just one layer, each layer in order, and above all later ones.
        self.assertEqual(sorted(thread for layer in layers for thread in layer), all_threads(cloth))
        for place, layer in enumerate(layers):
            self.assertIs(type(layer), list)
            self.assertEqual(layer, sorted(layer))
            for later in layers[place + 1:]:
                self.assertFalse(any(lies_over(grid, upper, lower) for upper in later for lower in layer))
        self.assertEqual(len(layers) == 1, hangs(cloth))
        return layers

    def test_all_small_cloths(self):
        for cloth in small_cloths(3, 3, 9):
            self.assertEqual(self.right(cloth), reckoned_layers(cloth), cloth.told())

    def test_all_narrow_cloths(self):
        for cloth in list(small_cloths(4, 2, 8)) + list(small_cloths(2, 4, 8)) + list(small_cloths(7, 1, 7)) + list(
                small_cloths(1, 7, 7)):
            self.assertEqual(self.right(cloth), reckoned_layers(cloth), cloth.told())

    def test_drawn_cloths(self):
        chance = random.Random(75)
        cloths = drawn_cloths(76, 20, 7, 7)
        for share in (0.05, 0.1, 0.15, 0.85, 0.9, 0.95):
            cloths += [cloth_of([[chance.random() < share for _ in range(6)] for _ in range(6)]) for _ in range(6)]
        for cloth in cloths:
            self.assertEqual(self.right(cloth), reckoned_layers(cloth), cloth.told())

    def test_great_cloths(self):
        chance = random.Random(77)
        stairs = cloth_of([[end <= pick for end in range(60)] for pick in range(60)])
        cloths = [drawn_cloth(chance, 60, 60), long_chain(60), stairs, Cloth(60, [0] * 60), Cloth(60, [2 ** 60 - 1] * 60)]
        began = time.perf_counter()
        for cloth in cloths:
            layers_of(cloth)
        self.assertLess(time.perf_counter() - began, 20)
        for cloth in cloths:
            self.right(cloth)
        # Each end of the stairs lies over the picks from its own on, under those ahead of it.
        self.assertEqual(layers_of(stairs), [[(kind, number)] for number in range(1, 61) for kind in ("end", "pick")])
