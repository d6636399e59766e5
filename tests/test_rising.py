"""Points 2 and 17: rising rows."""

import itertools
import random
import unittest

from tests.support import (
    all_orders, asker_owns, climbed, drawn_below, drawn_order, drawn_orders, drawn_pairs, falling, inversions,
    look_at_bounds, low_order, rising, swapped,
)
from undercells.rests import rest
from undercells.rising import rising_rows


def rows_from(order, pairs, most):
    """All rising rows out of the pairs, with what each comes to, of at most so many wrong pairs; below is not asked."""
    found = [(order, [])]
    for at, (i, j) in enumerate(pairs):
        step = swapped(order, i, j)
        if order[i - 1] < order[j - 1] and inversions(step) <= most:
            found.extend((end, [(i, j)] + row) for end, row in rows_from(step, pairs[at + 1:], most))
    return found


def all_rows(order, most):
    """All rising rows from an order, lists by what they come to."""
    found = {}
    pairs = list(itertools.combinations(range(1, len(order) + 1), 2))
    for end, row in rows_from(order, pairs, most):
        found.setdefault(end, []).append(row)
    return found


class RisingRows(unittest.TestCase):

    def look_at_form(self, one, other, told):
        self.assertIs(type(told), list)
        for row in told:
            self.assertIs(type(row), list)
            self.assertTrue(all(type(pair) is tuple and len(pair) == 2 for pair in row))
            self.assertTrue(all(type(place) is int for pair in row for place in pair))
            self.assertTrue(all(1 <= i < j <= len(one) for i, j in row))
            self.assertEqual(row, sorted(set(row)))
            here = one
            for i, j in row:
                self.assertLess(here[i - 1], here[j - 1])
                here = swapped(here, i, j)
            self.assertEqual(here, other)
        self.assertTrue(all(row < later for row, later in zip(told, told[1:])))

    def look_at(self, one, other, rows):
        told = rising_rows(one, other)
        self.look_at_form(one, other, told)
        self.assertEqual(told, sorted(rows.get(other, [])), (one, other))
        self.look_at_rest(one, other, told)

    def look_at_rest(self, one, other, told):
        numbers = {}
        for row in told:
            numbers[len(row)] = numbers.get(len(row), 0) + 1
        self.assertEqual(sorted(numbers.items()), rest(one, other))

    def test_by_hand(self):
        self.assertEqual(rising_rows((1, 2), (2, 1)), [[(1, 2)]])
        self.assertEqual(rising_rows((2, 1), (1, 2)), [])
        self.assertEqual(rising_rows((1, 2, 3), (3, 2, 1)), [[(1, 2), (1, 3), (2, 3)], [(1, 3)]])
        self.assertEqual(rising_rows((1, 2, 3), (2, 3, 1)), [[(1, 2), (2, 3)]])
        self.assertEqual(rising_rows((1, 2, 3), (3, 1, 2)), [[(1, 2), (1, 3)]])

    def test_all_small_pairs(self):
        for n in range(1, 5):
            for one in all_orders(n):
                rows = all_rows(one, n * n)
                for other in all_orders(n):
                    self.look_at(one, other, rows)

    def test_five_things(self):
        for one in all_orders(5)[::10] + [falling(5)]:
            rows = all_rows(one, 10)
            for other in all_orders(5):
                self.look_at(one, other, rows)

    def test_five_things_against_the_rest(self):
        for one, other in drawn_pairs(111, 100, 5, 5):
            told = rising_rows(one, other)
            self.look_at_form(one, other, told)
            self.look_at_rest(one, other, told)

    def test_six_wrong_pairs_more(self):
        draw = random.Random(112)
        for n in [6, 7, 8]:
            one = low_order(draw, n, 6)
            rows = all_rows(one, inversions(one) + 6)
            for other in draw.sample(sorted(rows), 60):
                self.look_at(one, other, rows)
            for k in range(20):
                self.look_at(one, climbed(draw, one, 6), rows)

    def test_more_of_eight_things(self):
        draw = random.Random(113)
        for k in range(60):
            one = low_order(draw, 8, 6)
            other = climbed(draw, one, k % 7)
            told = rising_rows(one, other)
            self.look_at_form(one, other, told)
            self.look_at_rest(one, other, told)
            self.assertTrue(told)

    def test_an_order_and_itself(self):
        for order in drawn_orders(114, 60, 1, 8) + [rising(8), falling(8)]:
            self.assertEqual(rising_rows(order, order), [[]])

    def test_not_below(self):
        for n in range(2, 9):
            self.assertEqual(rising_rows(falling(n), rising(n)), [])
            self.assertEqual(rising_rows(swapped(rising(n), 1, 2), rising(n)), [])
        self.assertEqual(rising_rows((2, 1, 3, 4, 5, 6, 7, 8), (1, 8, 2, 3, 4, 5, 6, 7)), [])
        draw = random.Random(115)
        for k in range(60):
            other = drawn_below(draw, drawn_order(draw, 6 + k % 3), 8)
            one = drawn_below(draw, other, 1)
            self.assertEqual(rising_rows(other, one), [[]] if one == other else [])

    def test_refused(self):
        look_at_bounds(self, rising_rows, 6)

    def test_told_lists_are_new(self):
        for one, other in [
            ((1,), (1,)), ((1, 2), (2, 1)), ((2, 1), (1, 2)), (rising(5), falling(5)), (falling(5), falling(5)),
            (rising(8), (2, 1, 4, 3, 6, 5, 8, 7)),
        ]:
            asker_owns(self, rising_rows, one, other)


if __name__ == "__main__":
    unittest.main()
