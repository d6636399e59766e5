"""Points 2, 13 and 14: sums of orders."""

import copy
import itertools
import random
import unittest

from tests.support import (
    THIRTY, all_orders, all_words, alone, asker_owns, drawn_poly, drawn_sum, fall_places, falling, flat, flat_added,
    flat_by_exchange, flat_product, flat_scaled, look_at_sum, refused, rising, small_sum, swapped,
)
from undercells.errors import NoPair, NoWord
from undercells.polys import times
from undercells.sums import added, by_exchange, product, scaled

ONE = [(0, 1)]
LESS_ONE = [(0, -1)]
EDGE_POLY = [(-60, -THIRTY), (0, 1), (60, THIRTY)]


def edge_sums():
    """Sums at the edges: of one thing, of five, of forty tuples, with great polynomials."""
    draw = random.Random(71)
    great = [(power, (-1) ** abs(power) * THIRTY) for power in range(-60, -40)] + [(p, 7) for p in range(41, 61)]
    return [
        alone((1,)), [((1,), EDGE_POLY)], [((1,), great)], alone((1, 2)), alone((2, 1)),
        [((1, 2), [(1, -1)]), ((2, 1), EDGE_POLY)],
        alone(rising(5)), alone(falling(5)), [(rising(5), great), (falling(5), EDGE_POLY)],
        [(order, drawn_poly(draw, least=1)) for order in sorted(draw.sample(all_orders(5), 40))],
        [(order, list(great)) for order in all_orders(5)[::3]],
    ]


def unlike_sums():
    """Pairs of sums of unlike numbers of things."""
    draw = random.Random(72)
    for n, m in itertools.permutations(range(1, 6), 2):
        yield alone(rising(n)), alone(rising(m))
        yield alone(falling(n)), alone(falling(m))
        yield small_sum(draw, n), small_sum(draw, m)


class Added(unittest.TestCase):

    def look_at(self, one, other):
        told = added(one, other)
        look_at_sum(self, told)
        self.assertEqual(flat(told), flat_added(flat(one), flat(other)))

    def test_by_hand(self):
        one = [((1, 2), [(0, 1)]), ((2, 1), [(1, 2)])]
        other = [((2, 1), [(-1, 3), (1, -1)])]
        self.assertEqual(added(one, other), [((1, 2), [(0, 1)]), ((2, 1), [(-1, 3), (1, 1)])])
        self.assertEqual(added(alone((2, 3, 1)), alone((1, 3, 2))), alone((1, 3, 2)) + alone((2, 3, 1)))

    def test_drawn(self):
        draw = random.Random(73)
        for k in range(60):
            n = 1 + k % 5
            self.look_at(drawn_sum(draw, n, 40, (6, 60, THIRTY)), drawn_sum(draw, n, 40, (6, 60, THIRTY)))
            self.look_at(small_sum(draw, n, 40), small_sum(draw, n, 40))

    def test_edges(self):
        for one, other in itertools.product(edge_sums(), repeat=2):
            if len(one[0][0]) == len(other[0][0]):
                self.look_at(one, other)

    def test_sum_without_tuples(self):
        self.assertEqual(added([], []), [])
        for one in edge_sums():
            self.assertEqual(added([], one), one)
            self.assertEqual(added(one, []), one)

    def test_orders_that_fall_out(self):
        for one in edge_sums():
            less = [(order, [(power, -number) for power, number in poly]) for order, poly in one]
            self.assertEqual(added(one, less), [])
            self.assertEqual(added(one, less[1:]), one[:1])
            self.assertEqual(added(less[:-1], one), one[-1:])
        one = [((1, 2, 3), [(0, 1), (1, 1)]), ((1, 3, 2), [(2, 5)]), ((3, 2, 1), [(0, 1)])]
        other = [((1, 2, 3), [(1, -1)]), ((1, 3, 2), [(2, -5)]), ((2, 1, 3), [(0, 4)])]
        self.assertEqual(added(one, other), [((1, 2, 3), [(0, 1)]), ((2, 1, 3), [(0, 4)]), ((3, 2, 1), [(0, 1)])])

    def test_unlike_numbers_of_things(self):
        for one, other in unlike_sums():
            refused(self, NoPair, added, one, other)

    def test_told_lists_are_new(self):
        for one in edge_sums():
            asker_owns(self, added, copy.deepcopy(one), [])
            asker_owns(self, added, [], copy.deepcopy(one))
            asker_owns(self, added, copy.deepcopy(one), copy.deepcopy(one))
            both = copy.deepcopy(one)
            asker_owns(self, added, both, both)
        asker_owns(self, added, [], [])

    def test_one_polynomial_handed_in_twice(self):
        poly = [(0, 1), (2, 3)]
        asker_owns(self, added, [((1, 2), poly), ((2, 1), poly)], [])
        poly = [(0, 1), (2, 3)]
        asker_owns(self, added, [((1, 2), poly)], [((2, 1), poly)])


class Scaled(unittest.TestCase):

    def look_at(self, poly, one):
        told = scaled(poly, one)
        look_at_sum(self, told)
        self.assertEqual(flat(told), flat_scaled(poly, flat(one)))
        self.assertEqual([order for order, many in told], [order for order, many in one] if poly else [])

    def test_by_hand(self):
        one = [((1, 2), [(0, 1)]), ((2, 1), [(-1, 2), (1, -1)])]
        self.assertEqual(scaled([(1, 3)], one), [((1, 2), [(1, 3)]), ((2, 1), [(0, 6), (2, -3)])])
        self.assertEqual(scaled([(-1, 1), (1, 2)], one),
                         [((1, 2), [(-1, 1), (1, 2)]), ((2, 1), [(-2, 2), (0, 3), (2, -2)])])

    def test_nothing_and_one(self):
        self.assertEqual(scaled([], []), [])
        self.assertEqual(scaled(EDGE_POLY, []), [])
        for one in edge_sums():
            self.assertEqual(scaled([], one), [])
            self.assertEqual(scaled(ONE, one), one)
            self.assertEqual(added(scaled(LESS_ONE, one), one), [])

    def test_edges_and_drawn(self):
        draw = random.Random(74)
        for one in edge_sums():
            self.look_at(EDGE_POLY, one)
            self.look_at(drawn_poly(draw), one)
            self.look_at(drawn_poly(draw, 3, 2, 2), one)
        for k in range(40):
            self.look_at(drawn_poly(draw, 3, 2, 2), small_sum(draw, 1 + k % 5, 40))

    def test_told_lists_are_new(self):
        for one in edge_sums() + [[]]:
            for poly in [[], ONE, EDGE_POLY]:
                asker_owns(self, scaled, list(poly), copy.deepcopy(one))
        poly = [(0, 1), (2, 3)]
        asker_owns(self, scaled, poly, [((1, 2), poly), ((2, 1), poly)])


class ByExchange(unittest.TestCase):

    def look_at(self, one, k):
        told = by_exchange(one, k)
        look_at_sum(self, told)
        self.assertEqual(flat(told), flat_by_exchange(flat(one), k))

    def test_by_hand(self):
        self.assertEqual(by_exchange(alone((1, 2)), 1), alone((2, 1)))
        self.assertEqual(by_exchange(alone((2, 1)), 1), [((1, 2), ONE), ((2, 1), [(-1, 1), (1, -1)])])
        self.assertEqual(by_exchange([((2, 3, 1), [(1, 2)])], 1), [((3, 2, 1), [(1, 2)])])
        self.assertEqual(by_exchange([((2, 3, 1), [(1, 2)])], 2),
                         [((2, 1, 3), [(1, 2)]), ((2, 3, 1), [(0, 2), (2, -2)])])

    def test_each_order_alone(self):
        for n in range(2, 6):
            for order, k in itertools.product(all_orders(n), range(1, n)):
                due = alone(swapped(order, k, k + 1))
                if k in fall_places(order):
                    due = sorted(due + [(order, [(-1, 1), (1, -1)])])
                self.assertEqual(by_exchange(alone(order), k), due)

    def test_edges_and_drawn(self):
        draw = random.Random(75)
        for one in edge_sums() + [small_sum(draw, 2 + at % 4, 40) for at in range(40)]:
            for k in range(1, len(one[0][0])):
                self.look_at(one, k)

    def test_sum_without_tuples(self):
        for k in [1, 2, 3, 4, 0, -1, 5, 19, 20, THIRTY]:
            self.assertEqual(by_exchange([], k), [])

    def test_orders_that_fall_out(self):
        for n in range(2, 6):
            for k in range(1, n):
                order = swapped(rising(n), k, k + 1)
                one = [(rising(n), [(-1, -1), (1, 1)]), (order, ONE)]
                self.assertEqual(by_exchange(one, k), alone(rising(n)))

    def test_done_again(self):
        # An exchange done twice is the sum, and [(-1, 1), (1, -1)] times it done once.
        for one in edge_sums():
            for k in range(1, len(one[0][0])):
                once = by_exchange(one, k)
                self.assertEqual(by_exchange(once, k), added(one, scaled([(-1, 1), (1, -1)], once)))

    def test_exchanges_that_the_orders_have_not(self):
        draw = random.Random(76)
        for n in range(1, 6):
            for k in list(range(n, 5)) + [0, -1, n, 5, 19, 20, THIRTY, -THIRTY]:
                refused(self, NoWord, by_exchange, alone(rising(n)), k)
                refused(self, NoWord, by_exchange, alone(falling(n)), k)
                refused(self, NoWord, by_exchange, small_sum(draw, n, 40), k)

    def test_told_lists_are_new(self):
        for one in edge_sums() + [[]]:
            for k in range(1, len(one[0][0]) if one else 5):
                asker_owns(self, by_exchange, copy.deepcopy(one), k)
        poly = [(0, 1), (2, 3)]
        asker_owns(self, by_exchange, [((1, 2), poly), ((2, 1), poly)], 1)


class Product(unittest.TestCase):

    def look_at(self, one, other):
        told = product(one, other)
        look_at_sum(self, told)
        self.assertEqual(flat(told), flat_product(flat(one), other))
        return told

    def test_by_hand(self):
        self.assertEqual(product(alone((2, 1)), alone((2, 1))), [((1, 2), ONE), ((2, 1), [(-1, 1), (1, -1)])])
        self.assertEqual(product(alone((2, 1, 3)), alone((1, 3, 2))), alone((2, 3, 1)))
        self.assertEqual(product(alone((1, 3, 2)), alone((2, 1, 3))), alone((3, 1, 2)))
        self.assertEqual(product([((1, 2), [(1, 1)]), ((2, 1), ONE)], [((1, 2), [(1, 1)]), ((2, 1), ONE)]),
                         [((1, 2), [(0, 1), (2, 1)]), ((2, 1), [(-1, 1), (1, 1)])])

    def test_all_small_orders(self):
        for n in range(1, 4):
            for one, other in itertools.product(all_orders(n), repeat=2):
                self.look_at(alone(one), alone(other))
        for one, other in itertools.product(all_orders(4)[::3], all_orders(4)[::2]):
            self.look_at(alone(one), alone(other))

    def test_small_drawn(self):
        draw = random.Random(77)
        for k in range(60):
            n = 1 + k % 5
            self.look_at(small_sum(draw, n), small_sum(draw, n))
            self.look_at(small_sum(draw, n, 1), small_sum(draw, n, 6))
            self.look_at(small_sum(draw, n, 6), small_sum(draw, n, 1))

    def test_great_drawn(self):
        draw = random.Random(78)
        for n in [1, 2, 3, 5]:
            self.look_at(drawn_sum(draw, n), drawn_sum(draw, n))

    def test_one_thing(self):
        draw = random.Random(79)
        for k in range(10):
            one, other = drawn_poly(draw, least=1), drawn_poly(draw, least=1)
            self.assertEqual(product([((1,), one)], [((1,), other)]), [((1,), times(one, other))])

    def test_sum_without_tuples(self):
        self.assertEqual(product([], []), [])
        for one in edge_sums():
            self.assertEqual(product([], one), [])
            self.assertEqual(product(one, []), [])

    def test_the_plain_order_changes_nothing(self):
        for one in edge_sums():
            plain = alone(rising(len(one[0][0])))
            self.assertEqual(product(one, plain), one)
            self.assertEqual(product(plain, one), one)

    def test_orders_that_fall_out(self):
        for n in range(2, 6):
            for k in range(1, n):
                order = swapped(rising(n), k, k + 1)
                one = [(rising(n), [(-1, -1), (1, 1)]), (order, ONE)]
                self.assertEqual(product(one, alone(order)), alone(rising(n)))
                self.assertEqual(product(alone(order), one), alone(rising(n)))
                less = [(rising(n), [(1, 1)]), (order, ONE)]
                more = [(rising(n), [(-1, -1)]), (order, ONE)]
                self.assertEqual(product(less, more), [])
                self.assertEqual(product(more, less), [])

    def test_each_shortest_word(self):
        draw = random.Random(80)
        for order in all_orders(3) + all_orders(4)[::2] + [(3, 2, 1, 5, 4), (2, 5, 3, 1, 4), (4, 3, 5, 1, 2)]:
            one = small_sum(draw, len(order))
            due = product(one, alone(order))
            for word in all_words(order):
                told = one
                for k in word:
                    told = by_exchange(told, k)
                self.assertEqual(told, due, (order, word))
                whole = alone(rising(len(order)))
                for k in word:
                    whole = product(whole, alone(swapped(rising(len(order)), k, k + 1)))
                self.assertEqual(whole, alone(order))

    def test_each_shortest_word_of_the_falling_order(self):
        one = small_sum(random.Random(81), 5, 3)
        due = product(one, alone(falling(5)))
        for word in all_words(falling(5))[::16]:
            told = one
            for k in word:
                told = by_exchange(told, k)
            self.assertEqual(told, due, word)

    def test_grouped_either_way(self):
        draw = random.Random(82)
        for n in [1, 2, 3, 4, 5, 5]:
            for sums in [[small_sum(draw, n) for k in range(3)], [drawn_sum(draw, n, 3) for k in range(3)]]:
                one, other, third = sums
                self.assertEqual(product(product(one, other), third), product(one, product(other, third)))

    def test_parts_of_a_sum(self):
        draw = random.Random(83)
        for n in range(1, 6):
            one, other, third = [small_sum(draw, n) for k in range(3)]
            poly = drawn_poly(draw, least=1)
            self.assertEqual(product(one, added(other, third)), added(product(one, other), product(one, third)))
            self.assertEqual(product(added(one, other), third), added(product(one, third), product(other, third)))
            self.assertEqual(product(scaled(poly, one), other), scaled(poly, product(one, other)))
            self.assertEqual(product(one, scaled(poly, other)), scaled(poly, product(one, other)))

    def test_told_sums_handed_in_again(self):
        draw = random.Random(84)
        one, other = drawn_sum(draw, 5), drawn_sum(draw, 5)
        told = product(one, other)
        self.assertEqual(added(told, scaled(LESS_ONE, told)), [])
        self.assertEqual(product(told, one), product(one, product(other, one)))
        self.assertEqual(by_exchange(told, 4), product(told, alone((1, 2, 3, 5, 4))))
        self.assertEqual(added(told, told), scaled([(0, 2)], told))
        small = small_sum(draw, 5)
        told = product(small, small)
        for k in range(2):
            told = product(told, told)
            look_at_sum(self, told)
        self.assertEqual(len(told), 120)
        self.assertEqual(product(told, small), product(small, told))

    def test_unlike_numbers_of_things(self):
        for one, other in unlike_sums():
            refused(self, NoPair, product, one, other)

    def test_told_lists_are_new(self):
        draw = random.Random(85)
        for one, other in [
            ([], []), (alone((1,)), []), ([], alone((2, 1))), (alone((1,)), alone((1,))),
            (alone((2, 1)), alone((1, 2))), (alone((1, 2)), alone((2, 1))), (alone(rising(5)), small_sum(draw, 5)),
            (small_sum(draw, 5), alone(rising(5))), (small_sum(draw, 5), small_sum(draw, 5)),
            (drawn_sum(draw, 4), drawn_sum(draw, 4)),
        ]:
            asker_owns(self, product, copy.deepcopy(one), copy.deepcopy(other))
            both = copy.deepcopy(one)
            asker_owns(self, product, both, both)
        poly = [(0, 1), (2, 3)]
        asker_owns(self, product, [((1, 2), poly), ((2, 1), poly)], alone((1, 2)))
        poly = [(0, 1), (2, 3)]
        asker_owns(self, product, alone((1, 2)), [((1, 2), poly), ((2, 1), poly)])


if __name__ == "__main__":
    unittest.main()
