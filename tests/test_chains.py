"""Points 2, 9, 10 and 11: kept places, chains, steps, and what is between."""

import itertools
import random
import unittest

from tests.support import (
    all_bars, all_orders, asker_owns, climbed, drawn_below, drawn_order, drawn_orders, drawn_pairs, exchanges, falling,
    inversions, is_under, low_order, refused, rising, swapped, walked,
)
from undercells.below import bar, is_below
from undercells.chains import between, chain, kept_places, steps_above, steps_below
from undercells.errors import NoPair, TooMany
from undercells.words import first_word


class Alike(unittest.TestCase):

    def look_at_places(self, one, other):
        places = kept_places(one, other)
        if all_bars(one, other):
            self.assertIsNone(places, (one, other))
            return
        word = first_word(other)
        self.assertIsInstance(places, list)
        self.assertEqual(places, sorted(set(places)))
        self.assertTrue(all(type(at) is int and 0 <= at < len(word) for at in places))
        self.assertEqual(walked(len(one), [word[at] for at in places]), one)
        self.assertEqual(len(places), inversions(one))

    def look_at_chain(self, one, other):
        told = chain(one, other)
        if all_bars(one, other):
            self.assertIsNone(told, (one, other))
            return
        self.assertIsInstance(told, list)
        self.assertEqual((told[0], told[-1]), (one, other))
        self.assertEqual(len(told), inversions(other) - inversions(one) + 1)
        for ahead, order in zip(told, told[1:]):
            self.assertIs(type(order), tuple)
            self.assertEqual(sum(1 for a, b in zip(ahead, order) if a != b), 2)
            self.assertEqual(sorted(order), sorted(ahead))
            self.assertEqual(inversions(order), inversions(ahead) + 1)

    def look_at(self, one, other):
        self.look_at_places(one, other)
        self.look_at_chain(one, other)
        told = {
            is_below(one, other), bar(one, other) is None, kept_places(one, other) is not None,
            chain(one, other) is not None,
        }
        self.assertEqual(len(told), 1)

    def test_all_pairs(self):
        for n in range(1, 5):
            for one, other in itertools.product(all_orders(n), repeat=2):
                self.look_at(one, other)

    def test_pairs_of_five_things(self):
        for one, other in itertools.product(all_orders(5)[::5], all_orders(5)[::2]):
            self.look_at(one, other)

    def test_drawn_pairs(self):
        for one, other in drawn_pairs(41, 60):
            self.look_at(one, other)

    def test_an_order_and_itself(self):
        for order in drawn_orders(42, 40):
            self.assertEqual(kept_places(order, order), list(range(inversions(order))))
            self.assertEqual(chain(order, order), [order])

    def test_rising_and_falling(self):
        for order in drawn_orders(43, 40) + [rising(20), falling(20), (1,)]:
            n = len(order)
            self.assertEqual(kept_places(rising(n), order), [])
            for one, other in [(rising(n), order), (order, falling(n)), (falling(n), order), (order, rising(n))]:
                self.look_at(one, other)

    def test_unlike_numbers_of_things(self):
        for n in range(1, 21):
            for m in range(1, 21):
                if n != m:
                    for one, other in [(rising(n), falling(m)), (falling(n), rising(m)), (rising(n), rising(m))]:
                        refused(self, NoPair, kept_places, one, other)
                        refused(self, NoPair, chain, one, other)

    def test_told_lists_are_new(self):
        for one, other in [
            ((1,), (1,)), ((1, 2), (2, 1)), ((1, 3, 2), (3, 2, 1)), ((2, 1, 3), (2, 1, 3)), (rising(20), falling(20)),
            (falling(20), falling(20)), ((2, 1), (1, 2)),
        ]:
            asker_owns(self, kept_places, one, other)
            asker_owns(self, chain, one, other)


class Steps(unittest.TestCase):

    def look_at(self, order):
        many = inversions(order)
        above = [new for new in exchanges(order) if inversions(new) == many + 1]
        below = [new for new in exchanges(order) if inversions(new) == many - 1]
        for told, due in [(steps_above(order), above), (steps_below(order), below)]:
            self.assertEqual(told, sorted(due), order)
            self.assertTrue(all(type(step) is tuple for step in told))

    def test_by_hand(self):
        self.assertEqual(steps_above((1,)), [])
        self.assertEqual(steps_below((1,)), [])
        self.assertEqual(steps_above((1, 2, 3)), [(1, 3, 2), (2, 1, 3)])
        self.assertEqual(steps_below((1, 2, 3)), [])
        self.assertEqual(steps_above((1, 3, 2)), [(2, 3, 1), (3, 1, 2)])
        self.assertEqual(steps_below((3, 2, 1)), [(2, 3, 1), (3, 1, 2)])
        self.assertEqual(steps_above((3, 2, 1)), [])

    def test_all_small_orders(self):
        for n in range(1, 6):
            for order in all_orders(n):
                self.look_at(order)

    def test_drawn_orders(self):
        for order in drawn_orders(44, 60, 6, 20) + drawn_orders(45, 5, 20, 20):
            self.look_at(order)

    def test_rising_and_falling(self):
        for n in range(1, 21):
            self.look_at(rising(n))
            self.look_at(falling(n))

    def test_told_lists_are_new(self):
        for order in [(1,), (2, 1), (2, 3, 1), rising(20), falling(20)]:
            asker_owns(self, steps_above, order)
            asker_owns(self, steps_below, order)


def near(one, many):
    """All orders that come of one by at most so many exchanges, each making a wrong pair."""
    found = {one}
    level = {one}
    for k in range(many):
        level = {
            swapped(order, i, j) for order in level for i, j in itertools.combinations(range(1, len(one) + 1), 2)
            if order[i - 1] < order[j - 1]
        }
        level = {order for order in level if inversions(order) <= inversions(one) + many}
        found |= level
    return found


class Between(unittest.TestCase):

    def look_at(self, one, other, orders):
        told = between(one, other)
        self.assertIsInstance(told, list)
        due = []
        if is_under(one, other):
            due = [order for order in orders if is_under(one, order) and is_under(order, other)]
        self.assertEqual(told, sorted(due), (one, other))
        self.assertTrue(all(type(order) is tuple for order in told))
        if one != other:
            self.assertEqual(sum((-1) ** inversions(order) for order in told), 0)

    def test_all_pairs(self):
        for n in range(1, 5):
            for one, other in itertools.product(all_orders(n), repeat=2):
                self.look_at(one, other, all_orders(n))

    def test_five_and_six_things(self):
        for n, many in [(5, 40), (6, 12)]:
            for one, other in drawn_pairs(46, many, n, n):
                self.look_at(one, other, all_orders(n))

    def test_from_the_rising_to_the_falling(self):
        for n in range(1, 7):
            self.assertEqual(between(rising(n), falling(n)), all_orders(n))
            if n > 1:
                self.assertEqual(between(falling(n), rising(n)), [])

    def test_an_order_and_itself(self):
        for order in drawn_orders(47, 60, 1, 9):
            self.assertEqual(between(order, order), [order])

    def test_seven_things_against_all(self):
        draw = random.Random(48)
        orders = all_orders(7)
        for many in range(5):
            for k in range(3):
                one = drawn_below(draw, drawn_order(draw, 7), 6)
                while inversions(one) > 17:
                    one = drawn_below(draw, one, 6)
                self.look_at(one, climbed(draw, one, many), [
                    order for order in orders if inversions(one) <= inversions(order) <= inversions(one) + many])

    def test_eight_and_nine_things(self):
        draw = random.Random(49)
        for n in [7, 8, 9]:
            for many in [0, 1, 2, 3, 3, 4, 4, 4]:
                one = low_order(draw, n, 4)
                other = climbed(draw, one, many)
                told = between(one, other)
                self.assertEqual(told, sorted(order for order in near(one, many) if is_under(order, other)))
                if many:
                    self.assertEqual(sum((-1) ** inversions(order) for order in told), 0)

    def test_not_below_is_nothing(self):
        for n in range(2, 10):
            one = (2, 1) + tuple(range(3, n + 1))
            self.assertEqual(between(one, rising(n)), [])
            self.assertEqual(between(falling(n), rising(n)), [])
            self.assertEqual(between(falling(n), one), [] if n > 2 else [(2, 1)])
        for n in range(7, 10):
            # Four wrong pairs more, but not below.
            self.assertEqual(between((2, 1) + tuple(range(3, n + 1)), (1, 7, 2, 3, 4, 5, 6) + rising(n)[7:]), [])

    def test_too_many_wrong_pairs(self):
        draw = random.Random(50)
        for n in [7, 8, 9]:
            for many in [5, 6, 9]:
                one = rising(n)
                for k in range(4):
                    refused(self, TooMany, between, one, climbed(draw, one, many))
                    one = climbed(draw, rising(n), 5)
            refused(self, TooMany, between, rising(n), falling(n))
            # So too where the one is not below the other.
            refused(self, TooMany, between, (2, 1) + rising(n)[2:], (1,) + falling(n)[:-1])
            refused(self, TooMany, between, (2, 1) + rising(n)[2:], (1, 7, 3, 2, 4, 5, 6) + rising(n)[7:])

    def test_too_many_things(self):
        for n in range(10, 21):
            for one, other in [
                (rising(n), rising(n)), (falling(n), falling(n)), (rising(n), falling(n)), (falling(n), rising(n)),
                (rising(n), (2, 1) + rising(n)[2:]),
            ]:
                refused(self, TooMany, between, one, other)

    def test_unlike_numbers_of_things(self):
        for n in range(1, 21):
            for m in range(1, 21):
                if n != m:
                    refused(self, NoPair, between, rising(n), falling(m))
                    refused(self, NoPair, between, falling(n), falling(m))

    def test_told_lists_are_new(self):
        for one, other in [
            ((1,), (1,)), ((1, 2), (2, 1)), ((2, 1), (1, 2)), (rising(5), falling(5)),
            (rising(9), (2, 1, 4, 3, 6, 5, 8, 7, 9)),
        ]:
            asker_owns(self, between, one, other)


if __name__ == "__main__":
    unittest.main()
