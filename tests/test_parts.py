"""Points 2 and 19: the polynomial of an order in another one, by dividing."""

import random
import unittest

from tests.support import (
    all_orders, asker_owns, climbed, drawn_below, drawn_order, drawn_orders, falling, in_v, inversions, is_under,
    look_at_bounds, look_at_poly, low_order, reckoned_rest, rising, swapped,
)
from undercells.chains import between
from undercells.kept import kept_sum, lead
from undercells.parts import polynomial
from undercells.polys import plus, times, turned


class Polynomials(unittest.TestCase):

    def look_at_form(self, one, other):
        told = polynomial(one, other)
        look_at_poly(self, told)
        if not is_under(one, other):
            self.assertEqual(told, [])
        elif one == other:
            self.assertEqual(told, [(0, 1)])
        else:
            more = inversions(other) - inversions(one)
            self.assertEqual(told[-1], (more, 1))
            self.assertTrue(all(power >= 1 and number >= 1 for power, number in told))
            self.assertTrue(all((more - power) % 2 == 0 for power, number in told))
        return told

    def look_at_sum(self, one, other):
        """It less itself turned is the sum over all that is between."""
        told = self.look_at_form(one, other)
        draw = random.Random(131)
        known = {}
        total = []
        for middle in between(one, other):
            if middle != one:
                left = in_v(sorted(reckoned_rest(one, middle, draw, known).items()))
                total = plus(total, times(turned(polynomial(middle, other)), left))
        self.assertEqual(plus(told, times([(0, -1)], turned(told))), total, (one, other))

    def test_by_hand(self):
        self.assertEqual(polynomial((1, 2), (2, 1)), [(1, 1)])
        self.assertEqual(polynomial((2, 1), (1, 2)), [])
        self.assertEqual(polynomial((1, 2, 3), (3, 2, 1)), [(3, 1)])
        self.assertEqual(polynomial((1, 3, 2, 4), (3, 4, 1, 2)), [(1, 1), (3, 1)])
        self.assertEqual(polynomial((1, 2, 3, 4), (3, 4, 1, 2)), [(2, 1), (4, 1)])
        self.assertEqual(polynomial((2, 1, 4, 3), (4, 2, 3, 1)), [(1, 1), (3, 1)])
        self.assertEqual(polynomial((1, 2, 3, 4), (4, 2, 3, 1)), [(3, 1), (5, 1)])
        self.assertEqual(polynomial((1, 2, 3, 4, 5), (5, 2, 3, 4, 1)), [(3, 1), (5, 2), (7, 1)])

    def test_against_the_kept_sum(self):
        for n in range(1, 5):
            for other in all_orders(n):
                polys = dict(kept_sum(other))
                for one in all_orders(n):
                    self.assertEqual(self.look_at_form(one, other), polys.get(one, []), (one, other))

    def test_five_things_against_the_kept_sum(self):
        for other in all_orders(5)[::11] + [(5, 2, 3, 4, 1), (4, 5, 3, 1, 2), (3, 4, 5, 1, 2), falling(5)]:
            polys = dict(kept_sum(other))
            for one in all_orders(5)[::4] + [other]:
                self.assertEqual(self.look_at_form(one, other), polys.get(one, []), (one, other))

    def test_against_the_sum_over_all_between(self):
        draw = random.Random(132)
        for n, many in [(1, 0), (2, 1), (3, 3), (4, 5), (4, 6), (5, 6), (5, 10)]:
            one = low_order(draw, n, many)
            self.look_at_sum(one, climbed(draw, one, many))

    def test_four_wrong_pairs_more(self):
        draw = random.Random(133)
        for n in [6, 7, 8]:
            for many in [0, 1, 2, 3, 3, 4, 4, 4, 4]:
                one = low_order(draw, n, many)
                self.look_at_sum(one, climbed(draw, one, many))
            four = climbed(draw, rising(n), 4)
            self.look_at_sum(rising(n), four)
            self.look_at_sum(tuple(n + 1 - thing for thing in four), falling(n))

    def test_things_at_home_change_nothing(self):
        draw = random.Random(134)
        for k in range(40):
            one = low_order(draw, 4 + k % 2, 4)
            other = climbed(draw, one, 1 + k % 4)
            due = polynomial(one, other)
            for front in range(4):
                for most in range(front + len(one), 9):
                    ahead = rising(front)
                    behind = tuple(range(front + len(one) + 1, most + 1))
                    low = ahead + tuple(thing + front for thing in one) + behind
                    high = ahead + tuple(thing + front for thing in other) + behind
                    self.assertEqual(polynomial(low, high), due)

    def test_unplain_orders_of_eight_things(self):
        low, high = (1, 3, 2, 4), (3, 4, 1, 2)
        for n in [6, 7, 8]:
            self.assertEqual(polynomial(low + rising(n)[4:], high + rising(n)[4:]), [(1, 1), (3, 1)])
        self.assertEqual(polynomial((5, 7, 6, 8, 4, 3, 2, 1), (7, 8, 5, 6, 4, 3, 2, 1)), [(1, 1), (3, 1)])
        self.assertEqual(polynomial((1, 2, 3, 4, 8, 7, 6, 5), (3, 4, 1, 2, 8, 7, 6, 5)), [(2, 1), (4, 1)])

    def test_the_lead_is_the_number_at_the_power_1(self):
        for n in [3, 4]:
            for one in all_orders(n)[::2]:
                for other in all_orders(n)[::3]:
                    self.assertEqual(lead(one, other), dict(polynomial(one, other)).get(1, 0))

    def test_an_order_in_itself(self):
        for order in drawn_orders(135, 40, 1, 8) + [rising(8), falling(8)]:
            self.assertEqual(polynomial(order, order), [(0, 1)])

    def test_not_below(self):
        for n in range(2, 9):
            self.assertEqual(polynomial(falling(n), rising(n)), [])
            self.assertEqual(polynomial(swapped(rising(n), 1, 2), rising(n)), [])
        for n in [7, 8]:
            # Four wrong pairs more, but not below.
            self.assertEqual(polynomial(swapped(rising(n), 1, 2), (1, 7, 2, 3, 4, 5, 6) + rising(n)[7:]), [])
        draw = random.Random(136)
        for k in range(60):
            other = drawn_below(draw, drawn_order(draw, 6 + k % 3), 8)
            one = drawn_below(draw, other, 1)
            self.assertEqual(polynomial(other, one), [(0, 1)] if one == other else [])

    def test_refused(self):
        look_at_bounds(self, polynomial, 4)

    def test_told_lists_are_new(self):
        for one, other in [
            ((1,), (1,)), ((1, 2), (2, 1)), ((2, 1), (1, 2)), (rising(5), falling(5)), (falling(5), falling(5)),
            (rising(4), (3, 4, 1, 2)), (rising(8), (2, 1, 4, 3, 6, 5, 8, 7)),
        ]:
            asker_owns(self, polynomial, one, other)


if __name__ == "__main__":
    unittest.main()
