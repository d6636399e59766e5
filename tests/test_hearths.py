"""Points 2 and 26: right hearths, left hearths, and hearths of both."""

import unittest

from tests.support import (
    all_orders, asker_owns, back_of, fall_places, inversions, reckoned_leads, refused, rising, swapped,
)
from undercells.errors import TooMany
from undercells.hearths import both_hearths, left_hearths, right_hearths
from undercells.kept import kept_sum
from undercells.polys import times
from undercells.sums import added, product, scaled
from undercells.tables import shape, tables

ALL = [right_hearths, left_hearths, both_hearths]


def reckoned_right(n):
    """The right hearths by the words of 26."""
    leads = reckoned_leads(n)
    orders = all_orders(n)
    led = {
        (a, c) for a in orders for c in orders
        if (a == c and fall_places(a))
        or (set(fall_places(c)) - set(fall_places(a)) and ((a, c) in leads or (c, a) in leads))
    }
    for middle in orders:
        led |= {(a, c) for a in orders for c in orders if (a, middle) in led and (middle, c) in led}
    return parted(orders, lambda a, c: a == c or ((a, c) in led and (c, a) in led))


def parted(orders, are_of_one):
    """The sorted list of sorted lists of orders of which each two are of one."""
    return sorted({tuple(sorted(c for c in orders if are_of_one(a, c))) for a in orders})


def parted_by(orders, told):
    """The same by what is told of each order."""
    return parted(orders, lambda a, c: told(a) == told(c))


def as_tuples(hearths):
    return [tuple(hearth) for hearth in hearths]


def taken_apart(one):
    """The polynomials before the kept sums into which a sum is taken apart, by their orders."""
    found = {}
    while one:
        order, poly = max(one, key=lambda part: inversions(part[0]))
        found[order] = poly
        one = added(one, scaled(times([(0, -1)], poly), kept_sum(order)))
    return found


class Hearths(unittest.TestCase):

    def look_at_form(self, told, n):
        self.assertIs(type(told), list)
        self.assertEqual(told, sorted(told))
        for hearth in told:
            self.assertIs(type(hearth), list)
            self.assertTrue(all(type(order) is tuple for order in hearth))
            self.assertEqual(hearth, sorted(hearth))
        self.assertEqual(sorted(sum(told, [])), all_orders(n))

    def test_by_hand(self):
        for function in ALL:
            self.assertEqual(function(1), [[(1,)]])
            self.assertEqual(function(2), [[(1, 2)], [(2, 1)]])
        self.assertEqual(
            right_hearths(3), [[(1, 2, 3)], [(1, 3, 2), (3, 1, 2)], [(2, 1, 3), (2, 3, 1)], [(3, 2, 1)]])
        self.assertEqual(
            left_hearths(3), [[(1, 2, 3)], [(1, 3, 2), (2, 3, 1)], [(2, 1, 3), (3, 1, 2)], [(3, 2, 1)]])
        self.assertEqual(
            both_hearths(3), [[(1, 2, 3)], [(1, 3, 2), (2, 1, 3), (2, 3, 1), (3, 1, 2)], [(3, 2, 1)]])
        self.assertIn([(2, 1, 4, 3), (2, 4, 1, 3)], right_hearths(4))
        self.assertIn([(2, 1, 4, 3), (3, 1, 4, 2)], left_hearths(4))
        self.assertIn([(2, 1, 4, 3), (2, 4, 1, 3), (3, 1, 4, 2), (3, 4, 1, 2)], both_hearths(4))

    def test_forms(self):
        for n in range(1, 5):
            for function in ALL:
                self.look_at_form(function(n), n)

    def test_how_many(self):
        self.assertEqual([len(right_hearths(n)) for n in range(1, 5)], [1, 2, 4, 10])
        self.assertEqual([len(left_hearths(n)) for n in range(1, 5)], [1, 2, 4, 10])
        self.assertEqual([len(both_hearths(n)) for n in range(1, 5)], [1, 2, 3, 5])

    def test_by_the_words(self):
        for n in range(1, 5):
            orders = all_orders(n)
            right = reckoned_right(n)
            self.assertEqual(as_tuples(right_hearths(n)), right)
            of_right = {order: hearth for hearth in right for order in hearth}
            left = parted(orders, lambda a, c: of_right[back_of(a)] == of_right[back_of(c)])
            self.assertEqual(as_tuples(left_hearths(n)), left)
            of_both = {order: number for number, order in enumerate(orders)}
            for hearth in (right + left) * len(orders):
                least = min(of_both[order] for order in hearth)
                of_both.update({order: least for order in hearth})
            self.assertEqual(as_tuples(both_hearths(n)), parted_by(orders, of_both.get))

    def test_led_by_kept_sums_taken_apart(self):
        for n in range(2, 5):
            orders = all_orders(n)
            led = {order: {order} for order in orders}
            for order in orders:
                for k in range(1, n):
                    led[order] |= set(taken_apart(product(kept_sum(order), kept_sum(swapped(rising(n), k, k + 1)))))
            for step in orders:
                for order in orders:
                    led[order] = set().union(*[led[other] for other in led[order]])
            due = parted(orders, lambda a, c: c in led[a] and a in led[c])
            self.assertEqual(as_tuples(right_hearths(n)), due)

    def test_by_tables(self):
        for n in range(1, 5):
            orders = all_orders(n)
            self.assertEqual(as_tuples(right_hearths(n)), parted_by(orders, lambda order: tables(list(order))[0]))
            self.assertEqual(as_tuples(left_hearths(n)), parted_by(orders, lambda order: tables(list(order))[1]))
            self.assertEqual(
                as_tuples(both_hearths(n)), parted_by(orders, lambda order: shape(tables(list(order))[0])))

    def test_too_many_things(self):
        for n in range(5, 21):
            for function in ALL:
                refused(self, TooMany, function, n)

    def test_told_lists_are_new(self):
        for n in range(1, 5):
            for function in ALL:
                asker_owns(self, function, n)


if __name__ == "__main__":
    unittest.main()
