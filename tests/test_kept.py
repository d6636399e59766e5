"""Points 2 and 18: kept sums and leads."""

import itertools
import random
import unittest
from unittest import mock

from tests.support import (
    all_orders, alone, asker_owns, back_of, drawn_order, fall_places, falling, inversions, is_under, look_at_sum,
    refused, rising, swapped,
)
from undercells import kept
from undercells.errors import NoPair, TooMany
from undercells.kept import kept_sum, lead
from undercells.sums import added, product, scaled
from undercells.turning import turning


class KeptSums(unittest.TestCase):

    def look_at(self, order):
        told = kept_sum(order)
        look_at_sum(self, told)
        self.assertEqual(turning(told), told)
        polys = dict(told)
        self.assertEqual(polys[order], [(0, 1)])
        due = [lower for lower in all_orders(len(order)) if is_under(lower, order)]
        self.assertEqual(sorted(polys), due)
        for lower in due:
            if lower != order:
                self.look_at_poly(polys[lower], inversions(order) - inversions(lower))

    def look_at_poly(self, poly, more):
        self.assertTrue(all(power >= 1 and number >= 1 for power, number in poly))
        self.assertTrue(all((more - power) % 2 == 0 for power, number in poly))
        self.assertEqual(poly[-1], (more, 1))

    def test_by_hand(self):
        self.assertEqual(kept_sum((1,)), alone((1,)))
        self.assertEqual(kept_sum((1, 2)), alone((1, 2)))
        self.assertEqual(kept_sum((2, 1)), [((1, 2), [(1, 1)]), ((2, 1), [(0, 1)])])
        self.assertEqual(kept_sum((2, 3, 1)), [
            ((1, 2, 3), [(2, 1)]), ((1, 3, 2), [(1, 1)]), ((2, 1, 3), [(1, 1)]), ((2, 3, 1), [(0, 1)])])
        self.assertEqual(kept_sum((3, 4, 1, 2)), [
            ((1, 2, 3, 4), [(2, 1), (4, 1)]), ((1, 2, 4, 3), [(3, 1)]), ((1, 3, 2, 4), [(1, 1), (3, 1)]),
            ((1, 3, 4, 2), [(2, 1)]), ((1, 4, 2, 3), [(2, 1)]), ((1, 4, 3, 2), [(1, 1)]), ((2, 1, 3, 4), [(3, 1)]),
            ((2, 1, 4, 3), [(2, 1)]), ((2, 3, 1, 4), [(2, 1)]), ((2, 4, 1, 3), [(1, 1)]), ((3, 1, 2, 4), [(2, 1)]),
            ((3, 1, 4, 2), [(1, 1)]), ((3, 2, 1, 4), [(1, 1)]), ((3, 4, 1, 2), [(0, 1)])])

    def test_rising_and_falling(self):
        for n in range(1, 6):
            self.assertEqual(kept_sum(rising(n)), alone(rising(n)))
            most = n * (n - 1) // 2
            due = [(order, [(most - inversions(order), 1)]) for order in all_orders(n)]
            self.assertEqual(kept_sum(falling(n)), due)

    def test_all_small_orders(self):
        for n in range(1, 5):
            for order in all_orders(n):
                self.look_at(order)

    def test_five_things(self):
        for order in all_orders(5)[::6] + [(5, 2, 3, 4, 1), (4, 5, 3, 1, 2), (3, 4, 5, 1, 2), falling(5)]:
            self.look_at(order)

    def test_backs_have_the_same_polynomials(self):
        for order in all_orders(4) + all_orders(5)[::13]:
            mirrored = sorted((back_of(lower), poly) for lower, poly in kept_sum(order))
            self.assertEqual(kept_sum(back_of(order)), mirrored)

    def test_times_an_exchange(self):
        draw = random.Random(121)
        for order in all_orders(3) + all_orders(4) + [drawn_order(draw, 5) for k in range(12)]:
            n = len(order)
            for k in range(1, n):
                told = product(kept_sum(order), kept_sum(swapped(rising(n), k, k + 1)))
                if k in fall_places(order):
                    self.assertEqual(told, scaled([(-1, 1), (1, 1)], kept_sum(order)))
                    continue
                for lower, poly in kept_sum(order):
                    if k in fall_places(lower) and dict(poly).get(1, 0):
                        told = added(told, scaled([(0, -dict(poly)[1])], kept_sum(lower)))
                self.assertEqual(told, kept_sum(swapped(order, k, k + 1)))

    def test_each_is_found_once_in_a_call(self):
        found = []
        by_fall = kept.kept_by_fall

        def counted(order, k, known):
            found.append(order)
            return by_fall(order, k, known)

        with mock.patch.object(kept, "kept_by_fall", counted):
            for order in [falling(4), falling(5), (4, 5, 3, 1, 2), (5, 2, 3, 4, 1)]:
                found.clear()
                kept_sum(order)
                self.assertIn(order, found)
                self.assertEqual(len(found), len(set(found)))
                found.clear()
                lead(rising(len(order)), order)
                self.assertEqual(len(found), len(set(found)))

    def test_too_many_things(self):
        for n in range(6, 21):
            for order in [rising(n), falling(n), swapped(rising(n), 1, 2)]:
                refused(self, TooMany, kept_sum, order)

    def test_told_lists_are_new(self):
        for order in [(1,), (1, 2), (2, 1), (3, 2, 1), (3, 4, 1, 2), falling(5), rising(5)]:
            asker_owns(self, kept_sum, order)


class Leads(unittest.TestCase):

    def look_at(self, one, other, polys):
        told = lead(one, other)
        self.assertIs(type(told), int)
        self.assertEqual(told, sum(number for power, number in polys.get(one, []) if power == 1), (one, other))

    def test_by_hand(self):
        self.assertEqual(lead((1, 2), (2, 1)), 1)
        self.assertEqual(lead((1, 2, 3), (3, 2, 1)), 0)
        self.assertEqual(lead((2, 1, 3), (2, 3, 1)), 1)
        self.assertEqual(lead((1, 3, 2, 4), (3, 4, 1, 2)), 1)
        self.assertEqual(lead((2, 1, 4, 3), (4, 2, 3, 1)), 1)
        self.assertEqual(lead((1, 2, 3, 4), (3, 4, 1, 2)), 0)

    def test_all_small_pairs(self):
        for n in range(1, 5):
            for other in all_orders(n):
                polys = dict(kept_sum(other))
                for one in all_orders(n):
                    self.look_at(one, other, polys)

    def test_five_things(self):
        for other in [(4, 5, 3, 1, 2), (5, 2, 3, 4, 1), (3, 4, 5, 1, 2), (2, 4, 1, 5, 3), falling(5)]:
            polys = dict(kept_sum(other))
            for one in all_orders(5)[::2] + [other]:
                self.look_at(one, other, polys)

    def test_an_order_in_itself(self):
        for n in range(1, 6):
            for order in all_orders(n)[::5]:
                self.assertEqual(lead(order, order), 0)

    def test_not_below(self):
        for n in range(2, 6):
            self.assertEqual(lead(falling(n), rising(n)), 0)
            self.assertEqual(lead(swapped(rising(n), 1, 2), rising(n)), 0)
        self.assertEqual(lead((2, 1, 3), (1, 3, 2)), 0)
        self.assertEqual(lead((3, 4, 1, 2), (1, 3, 2, 4)), 0)

    def test_too_many_things(self):
        for n in range(6, 21):
            for one, other in [
                (rising(n), rising(n)), (rising(n), falling(n)), (falling(n), rising(n)),
                (rising(n), swapped(rising(n), 1, 2)), (swapped(rising(n), 1, 2), swapped(rising(n), 2, 3)),
            ]:
                refused(self, TooMany, lead, one, other)

    def test_unlike_numbers_of_things(self):
        for n, m in itertools.permutations(range(1, 21), 2):
            refused(self, NoPair, lead, rising(n), falling(m))
            refused(self, NoPair, lead, falling(n), falling(m))


if __name__ == "__main__":
    unittest.main()
