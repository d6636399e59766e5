"""Points 2, 20 and 21: plain orders, and the pairs below an order."""

import itertools
import random
import unittest

from tests.support import (
    all_orders, asker_owns, drawn_order, drawn_orders, falling, inversions, is_under, rising, swapped,
)
from undercells.kept import kept_sum
from undercells.plains import first_four, pairs_below


def all_fours(order, form):
    """All four places whose things stand as a form of the numbers 1 to 4, sorted."""
    found = []
    for places in itertools.combinations(range(1, len(order) + 1), 4):
        things = [order[place - 1] for place in places]
        if tuple(sorted(things).index(thing) + 1 for thing in things) == form:
            found.append(places)
    return found


def nearly_rising(draw, n, many):
    """The rising order after so many exchanges of near places."""
    order = rising(n)
    for k in range(many):
        i = draw.randrange(1, n)
        order = swapped(order, i, min(n, i + draw.randint(1, 3)))
    return order


class FirstFours(unittest.TestCase):

    def look_at(self, order):
        """Look at the first four, and tell which forms the order has."""
        one, other = all_fours(order, (3, 4, 1, 2)), all_fours(order, (4, 2, 3, 1))
        due = min(one + other, default=None)
        told = first_four(order)
        self.assertEqual(told, due, order)
        if told is not None:
            self.assertIs(type(told), tuple)
            self.assertTrue(all(type(place) is int for place in told))
        return (bool(one), bool(other))

    def test_by_hand(self):
        self.assertEqual(first_four((3, 4, 1, 2)), (1, 2, 3, 4))
        self.assertEqual(first_four((4, 2, 3, 1)), (1, 2, 3, 4))
        self.assertIsNone(first_four((4, 3, 2, 1)))
        self.assertIsNone(first_four((2, 4, 1, 3)))
        self.assertEqual(first_four((1, 4, 5, 2, 3)), (2, 3, 4, 5))
        self.assertEqual(first_four((5, 2, 3, 4, 1)), (1, 2, 3, 5))
        self.assertEqual(first_four((5, 1, 3, 4, 2)), (1, 3, 4, 5))

    def test_fewer_than_four_things(self):
        for n in range(1, 4):
            for order in all_orders(n):
                self.assertIsNone(first_four(order))

    def test_all_small_orders(self):
        for n in range(4, 7):
            for order in all_orders(n):
                self.look_at(order)

    def test_drawn(self):
        for order in drawn_orders(141, 30, 7, 12) + drawn_orders(142, 4, 20, 20):
            self.look_at(order)

    def test_every_sort_of_many_things(self):
        draw = random.Random(143)
        met = {}
        for k in range(200):
            order = nearly_rising(draw, 7 + k % 6, 1 + k % 11)
            kind = self.look_at(order)
            met[kind] = met.get(kind, 0) + 1
        self.assertTrue(all(met.get(kind, 0) >= 5 for kind in itertools.product([True, False], repeat=2)), met)

    def test_twenty_things(self):
        low, high = rising(8), tuple(range(13, 21))
        self.assertEqual(self.look_at(low + (11, 12, 9, 10) + high), (True, False))
        self.assertEqual(first_four(low + (11, 12, 9, 10) + high), (9, 10, 11, 12))
        self.assertEqual(self.look_at(low + (12, 10, 11, 9) + high), (False, True))
        self.assertEqual(first_four(low + (12, 10, 11, 9) + high), (9, 10, 11, 12))
        self.assertEqual(self.look_at((2, 1, 4, 3) + rising(20)[4:16] + (18, 17, 20, 19)), (False, False))
        self.assertEqual(self.look_at((3, 4, 1, 2) + rising(20)[4:16] + (20, 18, 19, 17)), (True, True))
        self.assertEqual(first_four((4, 2, 3, 1) + rising(20)[4:16] + (19, 20, 17, 18)), (1, 2, 3, 4))
        self.assertEqual(first_four(rising(20)[:16] + (20, 18, 19, 17)), (17, 18, 19, 20))
        self.assertEqual(first_four(rising(20)[:16] + (19, 20, 17, 18)), (17, 18, 19, 20))
        self.assertEqual(first_four((20,) + rising(20)[1:19] + (1,)), (1, 2, 3, 20))
        self.assertEqual(first_four(tuple(range(11, 21)) + rising(10)), (1, 2, 11, 12))
        for n in range(1, 21):
            for order in [rising(n), falling(n), rising(n)[1:] + (1,), (n,) + rising(n - 1)]:
                self.assertIsNone(first_four(order))

    def test_plain_by_the_kept_sum(self):
        for n in range(1, 5):
            for order in all_orders(n):
                self.look_at_kept(order)
        for order in all_orders(5)[::4]:
            self.look_at_kept(order)

    def look_at_kept(self, order):
        """Plain just where each polynomial of an order below is one tuple, before whose letter 1 stands."""
        alike = all(len(poly) == 1 and poly[0][1] == 1 for lower, poly in kept_sum(order))
        self.assertEqual(first_four(order) is None, alike, order)


class PairsBelow(unittest.TestCase):

    def look_at(self, order):
        n = len(order)
        told = pairs_below(order)
        due = [
            (i, j) for i, j in itertools.combinations(range(1, n + 1), 2) if is_under(swapped(rising(n), i, j), order)
        ]
        self.assertIs(type(told), list)
        self.assertEqual(told, due)
        self.assertTrue(all(type(pair) is tuple for pair in told))
        self.look_at_count(order, told)

    def look_at_count(self, order, told):
        self.assertGreaterEqual(len(told), inversions(order))
        self.assertEqual(len(told) == inversions(order), first_four(order) is None, order)

    def test_by_hand(self):
        self.assertEqual(pairs_below((2, 1)), [(1, 2)])
        self.assertEqual(pairs_below((2, 3, 1)), [(1, 2), (2, 3)])
        self.assertEqual(pairs_below((3, 2, 1)), [(1, 2), (1, 3), (2, 3)])
        self.assertEqual(pairs_below((3, 4, 1, 2)), [(1, 2), (1, 3), (2, 3), (2, 4), (3, 4)])
        self.assertEqual(pairs_below((4, 2, 3, 1)), [(1, 2), (1, 3), (1, 4), (2, 3), (2, 4), (3, 4)])

    def test_rising_and_falling(self):
        for n in range(1, 21):
            self.assertEqual(pairs_below(rising(n)), [])
            self.assertEqual(pairs_below(falling(n)), list(itertools.combinations(range(1, n + 1), 2)))

    def test_all_small_orders(self):
        for n in range(1, 6):
            for order in all_orders(n):
                self.look_at(order)

    def test_six_things(self):
        for order in all_orders(6):
            self.look_at_count(order, pairs_below(order))

    def test_drawn(self):
        draw = random.Random(144)
        for k in range(40):
            self.look_at(nearly_rising(draw, 6 + k % 4, 1 + k % 6))
        for order in drawn_orders(145, 40, 6, 20):
            self.look_at_count(order, pairs_below(order))
        for k in range(40):
            order = nearly_rising(draw, 15 + k % 6, 1 + k % 5)
            self.look_at_count(order, pairs_below(order))
        self.look_at(nearly_rising(draw, 20, 8))
        self.look_at(drawn_order(draw, 20))

    def test_told_lists_are_new(self):
        for order in [(1,), (1, 2), (2, 1), (3, 4, 1, 2), falling(20), rising(20)]:
            asker_owns(self, pairs_below, order)
            asker_owns(self, first_four, order)


if __name__ == "__main__":
    unittest.main()
