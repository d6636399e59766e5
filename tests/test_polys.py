"""Points 2 and 12: polynomials."""

import random
import unittest

from tests.support import THIRTY, asker_owns, drawn_poly, look_at_poly
from undercells.polys import plus, times, turned

ONE = [(0, 1)]


def number_at(poly, power):
    return sum(number for at, number in poly if at == power)


def value_at(poly, v):
    """The polynomial's value, times v so often that no power is below 0."""
    return sum(number * v ** (power + 4000) for power, number in poly)


class Polys(unittest.TestCase):

    def look_at(self, one, other):
        total = plus(one, other)
        look_at_poly(self, total)
        for power in {power for power, number in one + other + total}:
            self.assertEqual(number_at(total, power), number_at(one, power) + number_at(other, power))
        product = times(one, other)
        look_at_poly(self, product)
        for power in range(-121, 122):
            due = sum(number * number_at(other, power - at) for at, number in one)
            self.assertEqual(number_at(product, power), due)
        self.assertTrue(all(abs(power) <= 120 for power, number in product))
        for poly in [one, other]:
            look_at_poly(self, turned(poly))
            self.assertEqual(turned(poly), sorted((-power, number) for power, number in poly))

    def test_by_hand(self):
        self.assertEqual(plus([(0, 1)], [(1, 2)]), [(0, 1), (1, 2)])
        self.assertEqual(plus([(1, 2)], [(0, 1)]), [(0, 1), (1, 2)])
        self.assertEqual(plus([(-1, 1), (1, -1)], [(1, 1), (2, 5)]), [(-1, 1), (2, 5)])
        self.assertEqual(times([(0, 1), (1, 1)], [(0, 1), (1, -1)]), [(0, 1), (2, -1)])
        self.assertEqual(times([(-1, 1), (1, -1)], [(-1, 1), (1, 1)]), [(-2, 1), (2, -1)])
        self.assertEqual(turned([(-1, 1), (0, 3), (2, -5)]), [(-2, -5), (0, 3), (1, 1)])

    def test_nothing_and_one(self):
        draw = random.Random(61)
        self.assertEqual(plus([], []), [])
        self.assertEqual(times([], []), [])
        self.assertEqual(turned([]), [])
        self.assertEqual(turned(ONE), ONE)
        self.assertEqual(plus(ONE, ONE), [(0, 2)])
        for k in range(20):
            poly = drawn_poly(draw)
            self.assertEqual(plus(poly, []), poly)
            self.assertEqual(plus([], poly), poly)
            self.assertEqual(times(poly, []), [])
            self.assertEqual(times([], poly), [])
            self.assertEqual(times(poly, ONE), poly)
            self.assertEqual(times(ONE, poly), poly)
            self.assertEqual(turned(turned(poly)), poly)

    def test_numbers_that_cancel(self):
        draw = random.Random(62)
        for k in range(20):
            poly = drawn_poly(draw)
            contrary = [(power, -number) for power, number in poly]
            self.assertEqual(plus(poly, contrary), [])
            self.assertEqual(times(poly, [(0, -1)]), contrary)
            self.look_at(poly, turned(contrary))
        self.assertEqual(times([(0, 1), (60, 1)], [(-60, -1), (0, 1)]), [(-60, -1), (60, 1)])
        self.assertEqual(times([(0, THIRTY), (1, THIRTY)], [(0, THIRTY), (1, -THIRTY)]),
                         [(0, THIRTY ** 2), (2, -THIRTY ** 2)])

    def test_drawn(self):
        draw = random.Random(63)
        for k in range(25):
            self.look_at(drawn_poly(draw), drawn_poly(draw))
            self.look_at(drawn_poly(draw, 5, 3, 2), drawn_poly(draw, 5, 3, 2))

    def test_edges_of_powers_and_numbers(self):
        for one in [-60, -1, 0, 1, 60]:
            for other in [-60, -1, 0, 1, 60]:
                for number in [1, -1, THIRTY, -THIRTY]:
                    self.look_at([(one, number)], [(other, THIRTY)])
                    self.look_at([(one, number)], [(other, -THIRTY)])
                    self.look_at([(one, number)], [(other, 1)])
        full = [(power, -THIRTY) for power in range(-20, 20)]
        self.look_at(full, full)
        self.look_at(full, turned(full))

    def test_told_products_handed_in_again(self):
        draw = random.Random(64)
        for k in range(3):
            one, other, third = drawn_poly(draw), drawn_poly(draw), drawn_poly(draw)
            product = times(times(one, other), times(third, third))
            look_at_poly(self, product)
            self.assertEqual(product, times(one, times(other, times(third, third))))
            self.assertEqual(value_at(product, 3) * 3 ** 12000,
                             value_at(one, 3) * value_at(other, 3) * value_at(third, 3) ** 2)
            again = times(product, product)
            self.assertEqual(plus(again, times(again, [(0, -1)])), [])
            self.assertEqual(turned(turned(again)), again)
            self.assertEqual(turned(again), times(turned(product), turned(product)))
            self.assertEqual(plus(product, again), plus(again, product))

    def test_told_lists_are_new(self):
        poly = [(-60, THIRTY), (0, -3), (60, 1)]
        for one in [[], ONE, poly, [(1, 2)]]:
            asker_owns(self, turned, list(one))
            for other in [[], ONE, poly, [(1, -2)]]:
                asker_owns(self, plus, list(one), list(other))
                asker_owns(self, times, list(one), list(other))
        same = [(0, 1), (3, 4)]
        asker_owns(self, plus, same, same)
        same = [(0, 1), (3, 4)]
        asker_owns(self, times, same, same)


if __name__ == "__main__":
    unittest.main()
