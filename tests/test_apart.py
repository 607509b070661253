"""[82], [83]: cloths woven at once, a cloth taken apart."""

import random
import unittest

from loomwright.apart import taken_apart, woven_at_once
from loomwright.cloth import Cloth
from loomwright.errors import BadCloth
from loomwright.hanging import hangs
from loomwright.layers import layers_of
from tests.makers import cloth_drawn, crossings, drawn_cloth, drawn_cloths, plain, small_cloths
from tests.test_hanging import long_chain


def sized_lists(seed, times):
    """Lists of one to four cloths of like sizes."""
    chance = random.Random(seed)
    for _ in range(times):
        ends, picks = chance.randint(1, 6), chance.randint(1, 6)
        yield [drawn_cloth(chance, ends, picks) for _ in range(chance.randint(1, 4))]


def hanging_cloths(ends, picks, many, chance):
    found = []
    while len(found) < many:
        cloth = drawn_cloth(chance, ends, picks)
        if hangs(cloth):
            found.append(cloth)
    return found


class AtOnce(unittest.TestCase):
    def refused(self, cloths):
        with self.assertRaises(BadCloth) as caught:
            woven_at_once(cloths)
        self.assertIs(type(caught.exception), BadCloth)

    def test_by_hand(self):
        whole = woven_at_once([cloth_drawn("#.", ".#"), cloth_drawn(".#", "#.")])
        self.assertEqual(whole.told(), cloth_drawn("#...", "#.##", "..#.", "###.").told())

    def test_one(self):
        for cloth in drawn_cloths(82, 20, 60, 60):
            self.assertEqual(woven_at_once([cloth]).told(), cloth.told())

    def test_each_crossing(self):
        for cloths in sized_lists(83, 200):
            many, ends, picks = len(cloths), cloths[0].ends(), cloths[0].picks()
            whole = woven_at_once(cloths)
            self.assertIs(type(whole), Cloth)
            self.assertEqual((whole.ends(), whole.picks()), (ends * many, picks * many))
            for j, one in enumerate(cloths, start=1):
                for k, other in enumerate(cloths, start=1):
                    for i in range(1, ends + 1):
                        for p in range(1, picks + 1):
                            wanted = one.is_up(i, p) if j == k else j < k
                            self.assertIs(whole.is_up((i - 1) * many + j, (p - 1) * many + k), wanted)

    def test_the_same_cloth_again(self):
        cloth = cloth_drawn("#.", ".#")
        self.assertEqual(woven_at_once([cloth, cloth]).told(),
                         woven_at_once([cloth, cloth_drawn("#.", ".#")]).told())

    def test_unlike_sizes(self):
        one = Cloth(2, [1, 2])
        for other in (Cloth(1, [1, 1]), Cloth(3, [1, 1]), Cloth(2, [1]), Cloth(2, [1, 1, 1]), Cloth(3, [1, 1, 1])):
            self.refused([one, other])
            self.refused([other, one])
            self.refused([one, one, other])
            self.refused([one, one, one, other])
            self.refused([one, other, one, one])

    def test_just_sixty_and_one_more(self):
        for many in (1, 2, 3, 4):
            most = 60 // many
            self.assertEqual(woven_at_once([Cloth(most, [0])] * many).ends(), most * many)
            self.assertEqual(woven_at_once([Cloth(1, [0] * most)] * many).picks(), most * many)
            self.assertEqual(woven_at_once([Cloth(most, [0] * most)] * many).ends(), most * many)
            if many > 1:
                self.refused([Cloth(most + 1, [0])] * many)
                self.refused([Cloth(1, [0] * (most + 1))] * many)
                self.refused([Cloth(60, [0] * 60)] * many)

    def test_somewhat_beyond(self):
        self.assertEqual(woven_at_once([Cloth(1, [1])] * 5).told(), (5, [1, 3, 7, 15, 31]))
        self.refused([])


class Apart(unittest.TestCase):
    def test_by_hand(self):
        self.assertEqual(plain(taken_apart(cloth_drawn("#.#", ".##", "###"))),
                         [([3], [], None), ([1, 2], [1, 2], ("a cloth", (2, [1, 2]))), ([], [3], None)])
        self.assertEqual(taken_apart(Cloth(2, [3])), [([1], [], None), ([2], [], None), ([], [1], None)])
        self.assertEqual(taken_apart(Cloth(1, [0])), [([], [1], None), ([1], [], None)])

    def right(self, cloth):
        parts = taken_apart(cloth)
        self.assertIs(type(parts), list)
        self.assertEqual([[("end", end) for end in ends] + [("pick", pick) for pick in picks]
                          for ends, picks, _ in parts], layers_of(cloth))
        for part in parts:
            self.assertIs(type(part), tuple)
            ends, picks, inner = part
            self.assertEqual([type(ends), type(picks)], [list, list])
            if not ends or not picks:
                self.assertIsNone(inner)
            else:
                self.assertIs(type(inner), Cloth)
                self.assertEqual(crossings(inner),
                                 tuple(tuple(cloth.is_up(end, pick) for end in ends) for pick in picks))
                self.assertTrue(hangs(inner))

    def test_all_small_cloths(self):
        for cloth in small_cloths(3, 3, 9):
            self.right(cloth)

    def test_drawn_cloths(self):
        for cloth in drawn_cloths(84, 20, 10, 10) + [long_chain(60), Cloth(60, [0] * 60), Cloth(60, [2 ** 60 - 1] * 60)]:
            self.right(cloth)
        for cloths in sized_lists(85, 40):
            self.right(woven_at_once(cloths))

    def test_as_they_were(self):
        chance = random.Random(86)
        for ends, picks in ((2, 2), (2, 3), (3, 2), (4, 4), (5, 3), (15, 15)):
            for many in (1, 2, 3, 4):
                cloths = hanging_cloths(ends, picks, many, chance)
                parts = taken_apart(woven_at_once(cloths))
                self.assertEqual([inner.told() for _, _, inner in parts], [cloth.told() for cloth in cloths])
                for place, (end_numbers, pick_numbers, _) in enumerate(parts, start=1):
                    self.assertEqual(end_numbers, [(end - 1) * many + place for end in range(1, ends + 1)])
                    self.assertEqual(pick_numbers, [(pick - 1) * many + place for pick in range(1, picks + 1)])
