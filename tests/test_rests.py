"""Points 2 and 16: the rest of an order in another one."""

import itertools
import random
import unittest

from tests.support import (
    all_orders, alone, asker_owns, climbed, drawn_below, drawn_order, drawn_orders, drawn_pairs, fall_places, falling,
    in_v, inversions, is_under, look_at_bounds, look_at_poly, low_order, reckoned_rest, rising, swapped,
)
from undercells.chains import between
from undercells.polys import plus, times, turned
from undercells.rests import put_for_z, rest
from undercells.turning import turning


class Rests(unittest.TestCase):

    def look_at_form(self, one, other):
        told = rest(one, other)
        look_at_poly(self, told)
        if not is_under(one, other):
            self.assertEqual(told, [])
            return told
        more = inversions(other) - inversions(one)
        self.assertEqual(told[-1], (more, 1))
        self.assertTrue(all(power >= 0 and (more - power) % 2 == 0 and number > 0 for power, number in told))
        return told

    def look_at_falls(self, one, other):
        """Whichever fall of the other order is taken, it comes to what is told."""
        told = self.look_at_form(one, other)
        if one == other or not told:
            return
        for k in fall_places(other):
            less = swapped(other, k, k + 1)
            due = rest(swapped(one, k, k + 1), less)
            if k not in fall_places(one):
                due = plus(due, times([(1, 1)], rest(one, less)))
            self.assertEqual(told, due, (one, other, k))

    def look_at_reckoned(self, one, other, draw):
        told = self.look_at_form(one, other)
        self.assertEqual(told, sorted(reckoned_rest(one, other, draw, {}).items()), (one, other))

    def test_by_hand(self):
        self.assertEqual(rest((1, 2), (2, 1)), [(1, 1)])
        self.assertEqual(rest((2, 1), (1, 2)), [])
        self.assertEqual(rest((1, 2, 3), (2, 3, 1)), [(2, 1)])
        self.assertEqual(rest((1, 2, 3), (3, 2, 1)), [(1, 1), (3, 1)])
        self.assertEqual(rest((2, 1, 3), (3, 2, 1)), [(2, 1)])
        self.assertEqual(rest((2, 1, 3), (1, 3, 2)), [])
        self.assertEqual(rest(rising(5), falling(5)), [(2, 1), (4, 5), (6, 10), (8, 6), (10, 1)])

    def test_all_small_pairs_by_every_fall(self):
        for n in range(1, 5):
            for one, other in itertools.product(all_orders(n), repeat=2):
                self.look_at_falls(one, other)

    def test_five_things_by_every_fall(self):
        for one, other in itertools.product(all_orders(5)[::7], all_orders(5)[::3] + [falling(5)]):
            self.look_at_falls(one, other)

    def test_reckoned_apart(self):
        draw = random.Random(101)
        for n in range(1, 5):
            for one, other in itertools.product(all_orders(n), all_orders(n)[::2] + [falling(n)]):
                self.look_at_reckoned(one, other, draw)
        for one, other in drawn_pairs(102, 30, 5, 5) + [(rising(5), falling(5))]:
            self.look_at_reckoned(one, other, draw)

    def test_against_the_turning(self):
        for n in range(1, 6):
            for other in all_orders(n)[::1 if n < 5 else 9] + [falling(n)]:
                led = dict(turning(alone(other)))
                for one in all_orders(n):
                    self.assertEqual(in_v(rest(one, other)), led.get(one, []), (one, other))
                    self.assertEqual(put_for_z(rest(one, other)), led.get(one, []))

    def test_an_order_in_itself(self):
        for order in drawn_orders(103, 60, 1, 8) + [rising(8), falling(8)]:
            self.assertEqual(rest(order, order), [(0, 1)])

    def test_not_below(self):
        for n in range(2, 9):
            self.assertEqual(rest(falling(n), rising(n)), [])
            self.assertEqual(rest(swapped(rising(n), 1, 2), rising(n)), [])
        self.assertEqual(rest((2, 1, 3, 4, 5, 6, 7, 8), (1, 8, 2, 3, 4, 5, 6, 7)), [])
        draw = random.Random(104)
        for k in range(60):
            other = drawn_below(draw, drawn_order(draw, 6 + k % 3), 8)
            one = drawn_below(draw, other, 1)
            self.assertEqual(rest(other, one), [(0, 1)] if one == other else [])

    def test_six_wrong_pairs_more(self):
        draw = random.Random(105)
        for n in [6, 7, 8]:
            for many in [1, 2, 3, 4, 5, 6, 6, 6, 6]:
                one = low_order(draw, n, many)
                other = climbed(draw, one, many)
                self.look_at_falls(one, other)
                self.look_at_reckoned(one, other, draw)
            six = climbed(draw, rising(n), 6)
            self.look_at_falls(rising(n), six)
            high = tuple(n + 1 - thing for thing in six)
            self.look_at_falls(high, falling(n))
            self.look_at_reckoned(high, falling(n), draw)
            for one in [climbed(draw, rising(n), 3) for k in range(20)]:
                self.look_at_falls(one, six)

    def test_what_stands_between(self):
        # The turning done twice leads home: so the rests over all that is between cancel.
        draw = random.Random(106)
        for n, many in [(2, 1), (3, 3), (4, 6), (4, 4), (5, 10), (5, 7), (7, 4), (8, 3), (8, 4)]:
            one = low_order(draw, n, many)
            other = climbed(draw, one, many)
            total = []
            for middle in between(one, other):
                total = plus(total, times(in_v(rest(one, middle)), turned(in_v(rest(middle, other)))))
            self.assertEqual(total, [])

    def test_refused(self):
        look_at_bounds(self, rest, 6)

    def test_told_lists_are_new(self):
        for one, other in [
            ((1,), (1,)), ((1, 2), (2, 1)), ((2, 1), (1, 2)), (rising(5), falling(5)), (falling(5), falling(5)),
            (rising(8), (2, 1, 4, 3, 6, 5, 8, 7)),
        ]:
            asker_owns(self, rest, one, other)


if __name__ == "__main__":
    unittest.main()
