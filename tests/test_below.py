"""Points 2 and 8: below, by counts."""

import itertools
import unittest

from tests.support import all_bars, all_orders, drawn_orders, drawn_pairs, falling, refused, rising
from undercells.below import bar, is_below
from undercells.errors import NoPair


class Below(unittest.TestCase):

    def look_at(self, one, other):
        bars = all_bars(one, other)
        told = bar(one, other)
        self.assertIs(is_below(one, other), not bars, (one, other))
        if bars:
            self.assertIs(type(told), tuple)
            self.assertEqual(told, min(bars), (one, other))
        else:
            self.assertIsNone(told)

    def test_by_hand(self):
        self.assertIs(is_below((1, 3, 2), (2, 3, 1)), True)
        self.assertIs(is_below((2, 1, 3), (1, 3, 2)), False)
        self.assertEqual(bar((2, 1, 3), (1, 3, 2)), (1, 2))
        self.assertEqual(bar((1, 3, 2), (2, 1, 3)), (2, 3))
        self.assertEqual(bar((3, 1, 2), (2, 3, 1)), (1, 3))
        self.assertIsNone(bar((1,), (1,)))

    def test_all_pairs(self):
        for n in range(1, 5):
            for one, other in itertools.product(all_orders(n), repeat=2):
                self.look_at(one, other)

    def test_pairs_of_five_things(self):
        for one, other in itertools.product(all_orders(5)[::7], all_orders(5)):
            self.look_at(one, other)

    def test_drawn_pairs(self):
        for one, other in drawn_pairs(31, 60):
            self.look_at(one, other)

    def test_an_order_and_itself(self):
        for order in drawn_orders(32, 60):
            self.assertIs(is_below(order, order), True)
            self.assertIsNone(bar(order, order))

    def test_rising_and_falling(self):
        for order in drawn_orders(33, 80):
            n = len(order)
            self.assertIs(is_below(rising(n), order), True)
            self.assertIs(is_below(order, falling(n)), True)
            self.assertIs(is_below(order, rising(n)), order == rising(n))
            self.assertIs(is_below(falling(n), order), order == falling(n))
            self.look_at(falling(n), order)

    def test_unlike_numbers_of_things(self):
        for n in range(1, 21):
            for m in range(1, 21):
                if n != m:
                    refused(self, NoPair, is_below, rising(n), falling(m))
                    refused(self, NoPair, bar, rising(n), falling(m))
                    refused(self, NoPair, is_below, falling(n), rising(m))
                    refused(self, NoPair, bar, falling(n), rising(m))


if __name__ == "__main__":
    unittest.main()
