"""Points 2, 4 and 5: orders."""

import itertools
import math
import unittest

from tests.support import (
    NO_WHOLES, THIRTY, all_orders, asker_owns, drawn_orders, falling, inversions, nested, refused, rising, swapped,
)
from undercells.errors import NoNumber, NoPair, NoWord
from undercells.orders import (
    after, back, exchanged, falls, is_order, length, number_of, numbered, wrong_pairs,
)


class IsOrder(unittest.TestCase):

    def test_orders(self):
        for n in range(1, 6):
            for order in all_orders(n):
                self.assertIs(is_order(order), True)
        for order in drawn_orders(1, 60):
            self.assertIs(is_order(order), True)
        for n in range(1, 21):
            self.assertIs(is_order(rising(n)), True)
            self.assertIs(is_order(falling(n)), True)

    def test_too_few_and_too_many_things(self):
        for thing in [(), rising(21), falling(21), rising(22), rising(1999)]:
            self.assertIs(is_order(thing), False)

    def test_numbers_that_are_wrong(self):
        for thing in [
            (0,), (2,), (-1,), (1, 1), (2, 2), (0, 1), (1, 3), (2, 3), (1, 2, 4), (0, 1, 2), (1, 2, 2), (3, 1, 1),
            (-1, -2), (1, -2), (THIRTY,), (-THIRTY,), (1, THIRTY), (2, 1, THIRTY), rising(19) + (21,),
            rising(19) + (19,), (0,) + rising(19),
        ]:
            self.assertIs(is_order(thing), False, thing)

    def test_truths_are_no_numbers(self):
        for thing in [(True,), (True, 2), (2, True), (False,), (False, 1), (3, 2, True), (True, True)]:
            self.assertIs(is_order(thing), False, thing)

    def test_things_of_another_kind(self):
        for thing in [
            None, True, False, 0, 1, -1, THIRTY, "", "1", "12", "2 1", [], [1], [1, 2], [2, 1], list(rising(20)),
            ([1],), ((1,),), (1, (2,)), (1, [2]), ([], 1), (None,), (1, None), ("1",), ("1", "2"), (1, "2"),
            ([1, 2],), ((1, 2),), [(1, 2)], nested(8, 1), nested(7, (1, 2)), ([1], [2]), ((), 1),
        ]:
            self.assertIs(is_order(thing), False, thing)

    def test_what_is_handed_in_stays(self):
        asker_owns(self, is_order, [1, [2, (3,)]])
        asker_owns(self, is_order, ([1], [2]))


class After(unittest.TestCase):

    def test_place_by_place(self):
        self.assertEqual(after((2, 3, 1), (1, 3, 2)), (2, 1, 3))
        self.assertEqual(after((1, 3, 2), (2, 3, 1)), (3, 2, 1))
        self.assertEqual(after((1,), (1,)), (1,))
        for n in range(1, 5):
            for one, other in itertools.product(all_orders(n), repeat=2):
                told = after(one, other)
                self.assertIsInstance(told, tuple)
                for k in range(1, n + 1):
                    self.assertEqual(told[k - 1], one[other[k - 1] - 1])

    def test_twenty_things(self):
        for one in drawn_orders(2, 10, 20, 20):
            for other in drawn_orders(3, 10, 20, 20):
                self.assertEqual(after(one, other), tuple(one[k - 1] for k in other))
            self.assertEqual(after(one, rising(20)), one)
            self.assertEqual(after(rising(20), one), one)
            self.assertEqual(after(one, falling(20)), one[::-1])

    def test_unlike_numbers_of_things(self):
        for n in range(1, 21):
            for m in range(1, 21):
                if n != m:
                    refused(self, NoPair, after, rising(n), falling(m))


class Back(unittest.TestCase):

    def test_back_makes_the_plain_order(self):
        self.assertEqual(back((2, 3, 1)), (3, 1, 2))
        self.assertEqual(back((1,)), (1,))
        for n in range(1, 6):
            for order in all_orders(n):
                told = back(order)
                self.assertIsInstance(told, tuple)
                self.assertEqual(tuple(told[k - 1] for k in order), rising(n))

    def test_many_things(self):
        for order in drawn_orders(4, 60):
            self.assertEqual(tuple(back(order)[k - 1] for k in order), rising(len(order)))
        self.assertEqual(back(falling(20)), falling(20))
        self.assertEqual(back(rising(20)), rising(20))


class Exchanged(unittest.TestCase):

    def test_neighbours_change_places(self):
        self.assertEqual(exchanged((1, 2), 1), (2, 1))
        self.assertEqual(exchanged((3, 1, 2), 2), (3, 2, 1))
        for order in all_orders(4) + drawn_orders(5, 60):
            for k in range(1, len(order)):
                told = exchanged(order, k)
                self.assertIsInstance(told, tuple)
                self.assertEqual(told, swapped(order, k, k + 1))

    def test_no_number_of_an_exchange(self):
        for order in [(1,), (2, 1), (2, 3, 1), rising(20), falling(20)]:
            n = len(order)
            for k in NO_WHOLES + [0, -1, -n, n, n + 1, n + 2, 21, THIRTY, -THIRTY, nested(8, 1)]:
                refused(self, NoWord, exchanged, order, k)

    def test_one_thing_has_no_exchange(self):
        refused(self, NoWord, exchanged, (1,), 1)
        refused(self, NoWord, exchanged, (1,), 0)


class WrongPairs(unittest.TestCase):

    def test_small_orders(self):
        self.assertEqual(wrong_pairs((1,)), [])
        self.assertEqual(wrong_pairs((2, 1)), [(1, 2)])
        self.assertEqual(wrong_pairs((3, 1, 2)), [(1, 2), (1, 3)])
        self.assertEqual(wrong_pairs((2, 3, 1)), [(1, 3), (2, 3)])

    def test_pairs_length_and_falls(self):
        for order in [o for n in range(1, 6) for o in all_orders(n)] + drawn_orders(6, 80):
            pairs = [
                (i, j) for i, j in itertools.product(range(1, len(order) + 1), repeat=2)
                if i < j and order[i - 1] > order[j - 1]
            ]
            told = wrong_pairs(order)
            self.assertEqual(told, sorted(pairs))
            self.assertTrue(all(type(pair) is tuple for pair in told))
            self.assertEqual(length(order), inversions(order))
            self.assertEqual(falls(order), [i for i, j in sorted(pairs) if j == i + 1])

    def test_rising_and_falling(self):
        for n in range(1, 21):
            self.assertEqual(wrong_pairs(rising(n)), [])
            self.assertEqual(length(rising(n)), 0)
            self.assertEqual(falls(rising(n)), [])
            self.assertEqual(wrong_pairs(falling(n)), list(itertools.combinations(range(1, n + 1), 2)))
            self.assertEqual(length(falling(n)), n * (n - 1) // 2)
            self.assertEqual(falls(falling(n)), list(range(1, n)))

    def test_told_lists_are_new(self):
        for order in [(1,), (2, 1), (3, 1, 2), rising(20), falling(20)]:
            asker_owns(self, wrong_pairs, order)
            asker_owns(self, falls, order)


class Numbers(unittest.TestCase):

    def test_as_tuples_go(self):
        for n in range(1, 7):
            for number, order in enumerate(sorted(all_orders(n))):
                self.assertEqual(number_of(order), number)
                self.assertEqual(numbered(n, number), order)
                self.assertIsInstance(numbered(n, number), tuple)

    def test_first_and_last(self):
        for n in range(1, 21):
            last = math.factorial(n) - 1
            self.assertEqual(number_of(rising(n)), 0)
            self.assertEqual(number_of(falling(n)), last)
            self.assertEqual(numbered(n, 0), rising(n))
            self.assertEqual(numbered(n, last), falling(n))
            refused(self, NoNumber, numbered, n, last + 1)
            refused(self, NoNumber, numbered, n, last + 2)
            refused(self, NoNumber, numbered, n, -1)

    def test_there_and_back(self):
        for order in drawn_orders(7, 120):
            self.assertEqual(numbered(len(order), number_of(order)), order)
        for number in [1, 2, 719, 10 ** 9, 10 ** 17 + 7, math.factorial(19), math.factorial(19) - 1]:
            self.assertEqual(number_of(numbered(20, number)), number)

    def test_numbers_go_as_tuples_go(self):
        orders = sorted(drawn_orders(8, 50, 20, 20))
        numbers = [number_of(order) for order in orders]
        self.assertEqual(numbers, sorted(set(numbers)))
        # The next order of all: told by hand for twenty things.
        self.assertEqual(numbered(20, 1), rising(18) + (20, 19))
        self.assertEqual(numbered(20, 2), rising(17) + (19, 18, 20))
        self.assertEqual(numbered(20, math.factorial(19)), (2, 1) + tuple(range(3, 21)))

    def test_no_number(self):
        for n in [1, 2, 3, 20]:
            for number in NO_WHOLES + [-1, -2, -THIRTY, THIRTY, nested(8, 0)]:
                refused(self, NoNumber, numbered, n, number)


if __name__ == "__main__":
    unittest.main()
