"""Points 2 and 15: the turning."""

import copy
import random
import unittest

from tests.support import (
    THIRTY, all_orders, all_words, alone, asker_owns, drawn_poly, drawn_sum, falling, flat, flat_added,
    flat_by_exchange, flat_scaled, look_at_sum, rising, small_sum, swapped,
)
from undercells.polys import turned
from undercells.sums import added, product, scaled
from undercells.turning import turning
from undercells.words import first_word

ONE = [(0, 1)]


def flat_turned(n, word, poly):
    """What the turning makes of the order of a word, reckoned apart from the program."""
    part = {(rising(n), -power): number for power, number in poly}
    for k in word:
        part = flat_added(flat_by_exchange(part, k), flat_scaled([(-1, -1), (1, 1)], part))
    return part


class Turning(unittest.TestCase):

    def look_at(self, one):
        told = turning(one)
        look_at_sum(self, told)
        due = {}
        for order, poly in one:
            due = flat_added(due, flat_turned(len(order), first_word(order), poly))
        self.assertEqual(flat(told), due)
        return told

    def test_by_hand(self):
        self.assertEqual(turning(alone((1,))), alone((1,)))
        self.assertEqual(turning([((1,), [(-3, 2), (1, 5)])]), [((1,), [(-1, 5), (3, 2)])])
        self.assertEqual(turning(alone((2, 1))), [((1, 2), [(-1, -1), (1, 1)]), ((2, 1), ONE)])
        self.assertEqual(turning([((1, 2), [(1, 1)]), ((2, 1), ONE)]), [((1, 2), [(1, 1)]), ((2, 1), ONE)])
        self.assertEqual(turning([((2, 1), [(2, 3)])]), [((1, 2), [(-3, -3), (-1, 3)]), ((2, 1), [(-2, 3)])])

    def test_nothing(self):
        self.assertEqual(turning([]), [])

    def test_each_order_alone(self):
        for n in range(1, 6):
            for order in all_orders(n)[::1 if n < 5 else 4]:
                told = self.look_at(alone(order))
                self.assertEqual(told[-1], (order, ONE))

    def test_each_shortest_word(self):
        for order in all_orders(3) + all_orders(4)[::2] + [(3, 2, 1, 5, 4), (2, 5, 3, 1, 4)]:
            told = flat(turning([(order, [(-1, 2), (3, 1)])]))
            for word in all_words(order):
                self.assertEqual(flat_turned(len(order), word, [(-1, 2), (3, 1)]), told)

    def test_drawn(self):
        draw = random.Random(91)
        for k in range(30):
            self.look_at(small_sum(draw, 1 + k % 5, 12))
        for n in range(1, 6):
            self.look_at(drawn_sum(draw, n, 6))

    def test_orders_that_fall_out(self):
        for n in range(2, 6):
            for k in range(1, n):
                order = swapped(rising(n), k, k + 1)
                one = [(rising(n), [(-1, -1), (1, 1)]), (order, ONE)]
                self.assertEqual(turning(one), alone(order))

    def test_done_twice(self):
        draw = random.Random(92)
        for k in range(20):
            n = 1 + k % 5
            for one in [small_sum(draw, n, 40), drawn_sum(draw, n, 6)]:
                self.assertEqual(turning(turning(one)), one)

    def test_forty_tuples(self):
        draw = random.Random(93)
        orders = sorted(draw.sample(all_orders(5), 39) + [falling(5)])
        one = [(order, drawn_poly(draw, 40, 60, THIRTY, 40)) for order in sorted(set(orders))]
        told = turning(one)
        look_at_sum(self, told)
        self.assertEqual(len(told), 120)
        self.assertEqual(turning(told), one)

    def test_of_a_product(self):
        draw = random.Random(94)
        for n in [1, 2, 3, 4, 5]:
            for k in range(3):
                one, other = small_sum(draw, n), small_sum(draw, n)
                self.assertEqual(turning(product(one, other)), product(turning(one), turning(other)))
        one, other = drawn_sum(draw, 5, 2), drawn_sum(draw, 5, 2)
        self.assertEqual(turning(product(one, other)), product(turning(one), turning(other)))

    def test_of_a_sum_and_a_scaled_one(self):
        draw = random.Random(95)
        for n in range(1, 6):
            one, other = small_sum(draw, n, 40), drawn_sum(draw, n, 4)
            poly = drawn_poly(draw, 8)
            self.assertEqual(turning(added(one, other)), added(turning(one), turning(other)))
            self.assertEqual(turning(scaled(poly, one)), scaled(turned(poly), turning(one)))

    def test_told_sums_handed_in_again(self):
        draw = random.Random(96)
        told = product(drawn_sum(draw, 5, 6), drawn_sum(draw, 5, 6))
        self.assertEqual(turning(turning(told)), told)
        told = small_sum(draw, 5)
        for k in range(3):
            told = product(told, told)
            self.assertEqual(turning(turning(told)), told)

    def test_told_lists_are_new(self):
        draw = random.Random(97)
        for one in [
            [], alone((1,)), alone((2, 1)), alone(falling(5)), alone(rising(5)), small_sum(draw, 4, 40),
            drawn_sum(draw, 3),
        ]:
            asker_owns(self, turning, copy.deepcopy(one))
        poly = [(0, 1), (2, 3)]
        asker_owns(self, turning, [((1, 2), poly), ((2, 1), poly)])


if __name__ == "__main__":
    unittest.main()
