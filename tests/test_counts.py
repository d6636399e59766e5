"""Points 2 and 22: the count of an order, and the weighed one."""

import unittest

from tests.support import all_orders, asker_owns, drawn_orders, falling, inversions, is_under, refused, rising, swapped
from undercells.counts import count, weighed
from undercells.errors import TooMany
from undercells.parts import polynomial
from undercells.plains import first_four


def counted(order):
    """The count of an order by looking at all orders of as many things."""
    due = [0] * (inversions(order) + 1)
    for lower in all_orders(len(order)):
        if is_under(lower, order):
            due[inversions(lower)] += 1
    return due


def weighed_by_polynomials(order):
    """The weighed count of an order by the polynomials that are told of two orders."""
    due = [0] * (inversions(order) + 1)
    for lower in all_orders(len(order)):
        for power, number in polynomial(lower, order):
            place, left = divmod(inversions(lower) + inversions(order) - power, 2)
            assert left == 0 and place >= 0
            due[place] += number
    return due


class Forms(unittest.TestCase):

    def look_at_form(self, told, order):
        self.assertIs(type(told), list)
        self.assertTrue(all(type(number) is int for number in told), told)
        self.assertEqual(len(told), inversions(order) + 1)
        self.assertEqual((told[0], told[-1]), (1, 1))


class Counts(Forms):

    def look_at(self, order):
        told = count(order)
        self.look_at_form(told, order)
        self.assertEqual(told, counted(order), order)

    def test_by_hand(self):
        self.assertEqual(count((1,)), [1])
        self.assertEqual(count((1, 2)), [1])
        self.assertEqual(count((2, 1)), [1, 1])
        self.assertEqual(count((2, 3, 1)), [1, 2, 1])
        self.assertEqual(count((3, 2, 1)), [1, 2, 2, 1])
        self.assertEqual(count((3, 4, 1, 2)), [1, 3, 5, 4, 1])
        self.assertEqual(count((4, 3, 2, 1)), [1, 3, 5, 6, 5, 3, 1])
        self.assertEqual(count(falling(6)), [1, 5, 14, 29, 49, 71, 90, 101, 101, 90, 71, 49, 29, 14, 5, 1])

    def test_rising_and_falling(self):
        for n in range(1, 7):
            self.assertEqual(count(rising(n)), [1])
            self.look_at(falling(n))

    def test_all_small_orders(self):
        for n in range(1, 5):
            for order in all_orders(n):
                self.look_at(order)

    def test_five_and_six_things(self):
        for order in all_orders(5)[::7] + [(6, 2, 3, 4, 5, 1), (4, 5, 6, 1, 2, 3), (1, 2, 3, 6, 5, 4)]:
            self.look_at(order)

    def test_plain_just_where_it_reads_the_same_from_both_ends(self):
        for n in range(1, 6):
            for order in all_orders(n):
                self.assertEqual(count(order) == count(order)[::-1], first_four(order) is None, order)

    def test_too_many_things(self):
        for n in range(7, 21):
            for order in [rising(n), falling(n), swapped(rising(n), 1, 2)]:
                refused(self, TooMany, count, order)

    def test_told_lists_are_new(self):
        for order in [(1,), (2, 1), (3, 4, 1, 2), falling(6), rising(6)]:
            asker_owns(self, count, order)


class WeighedCounts(Forms):

    def look_at(self, order):
        told = weighed(order)
        self.look_at_form(told, order)
        self.assertEqual(told, told[::-1], order)
        self.assertEqual(told, weighed_by_polynomials(order), order)
        if first_four(order) is None:
            self.assertEqual(told, count(order))
        else:
            self.assertGreater(sum(told), sum(count(order)))

    def test_by_hand(self):
        self.assertEqual(weighed((1,)), [1])
        self.assertEqual(weighed((2, 1)), [1, 1])
        self.assertEqual(weighed((3, 2, 1)), [1, 2, 2, 1])
        self.assertEqual(weighed((3, 4, 1, 2)), [1, 4, 6, 4, 1])
        self.assertEqual(weighed((4, 2, 3, 1)), [1, 4, 7, 7, 4, 1])
        self.assertEqual(weighed((4, 5, 3, 1, 2)), [1, 4, 10, 17, 20, 17, 10, 4, 1])

    def test_all_small_orders(self):
        for n in range(1, 5):
            for order in all_orders(n):
                self.look_at(order)

    def test_five_things(self):
        some = [(5, 2, 3, 4, 1), (3, 4, 5, 1, 2), (4, 5, 3, 1, 2), (5, 3, 4, 1, 2), rising(5), falling(5)]
        for order in some + drawn_orders(151, 4, 5, 5):
            self.look_at(order)

    def test_every_order_of_five_things_reads_the_same_from_both_ends(self):
        for order in all_orders(5):
            told = weighed(order)
            self.look_at_form(told, order)
            self.assertEqual(told, told[::-1], order)

    def test_too_many_things(self):
        for n in range(6, 21):
            for order in [rising(n), falling(n), swapped(rising(n), 1, 2)]:
                refused(self, TooMany, weighed, order)

    def test_told_lists_are_new(self):
        for order in [(1,), (2, 1), (3, 4, 1, 2), falling(5), rising(5)]:
            asker_owns(self, weighed, order)


if __name__ == "__main__":
    unittest.main()
