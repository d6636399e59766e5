"""Points 2, 27 and 28: the tables of numbers of right hearths, and their matching."""

import copy
import unittest

from tests.support import asker_owns, fall_places, reckoned_leads, refused
from undercells.errors import NoPair
from undercells.hearths import right_hearths
from undercells.numbers import matched, number_tables
from undercells.tables import shape, tables

HEARTHS = [hearth for n in range(1, 5) for hearth in right_hearths(n)]


def multiplied(one, other):
    return [[sum(a * b for a, b in zip(row, column)) for column in zip(*other)] for row in one]


def plain_table(many):
    return [[1 if at == place else 0 for place in range(many)] for at in range(many)]


def number_by_words(k, a, c, leads):
    """The number in the row of a for c, by the words of 27."""
    if k in fall_places(a):
        return 1 if c == a else 0
    if c == a:
        return -1
    if k not in fall_places(c):
        return 0
    return leads.get((c, a), 0) or leads.get((a, c), 0)


def second_of(order):
    return tables(list(order))[1]


def shape_by(hearth):
    return shape(tables(list(hearth[0]))[0])


class NumberTables(unittest.TestCase):

    def test_by_hand(self):
        self.assertEqual(number_tables([(1,)]), [])
        self.assertEqual(number_tables([(1, 2)]), [[[-1]]])
        self.assertEqual(number_tables([(2, 1)]), [[[1]]])
        self.assertEqual(number_tables([(1, 2, 3)]), [[[-1]], [[-1]]])
        self.assertEqual(number_tables([(3, 2, 1)]), [[[1]], [[1]]])
        self.assertEqual(number_tables([(1, 3, 2), (3, 1, 2)]), [[[-1, 1], [0, 1]], [[1, 0], [1, -1]]])

    def test_by_the_words(self):
        leads = {n: reckoned_leads(n) for n in range(1, 5)}
        for hearth in HEARTHS:
            n = len(hearth[0])
            told = number_tables(hearth)
            due = [[[number_by_words(k, a, c, leads[n]) for c in hearth] for a in hearth] for k in range(1, n)]
            self.assertEqual(told, due, hearth)
            self.assertIs(type(told), list)
            for table in told:
                self.assertIs(type(table), list)
                for row in table:
                    self.assertIs(type(row), list)
                    self.assertTrue(all(type(number) is int for number in row))

    def test_multiplied_with_itself_the_plain_table(self):
        for hearth in HEARTHS:
            for table in number_tables(hearth):
                self.assertEqual(multiplied(table, table), plain_table(len(hearth)))

    def test_neighbours_by_turns_three_times(self):
        for hearth in HEARTHS:
            told = number_tables(hearth)
            for one, other in zip(told, told[1:]):
                self.assertEqual(
                    multiplied(multiplied(one, other), one), multiplied(multiplied(other, one), other), hearth)

    def test_those_further_apart_in_either_order(self):
        for hearth in HEARTHS:
            told = number_tables(hearth)
            for at, one in enumerate(told):
                for other in told[at + 2:]:
                    self.assertEqual(multiplied(one, other), multiplied(other, one), hearth)

    def test_told_lists_are_new(self):
        for hearth in HEARTHS:
            asker_owns(self, number_tables, list(hearth))


class Matched(unittest.TestCase):

    def test_by_hand(self):
        self.assertEqual(matched([(1,)], [(1,)]), [((1,), (1,))])
        self.assertEqual(
            matched([(1, 3, 2), (3, 1, 2)], [(2, 1, 3), (2, 3, 1)]), [((1, 3, 2), (2, 3, 1)), ((3, 1, 2), (2, 1, 3))])

    def test_every_two_right_hearths(self):
        met = 0
        for one in HEARTHS:
            for other in HEARTHS:
                if len(one[0]) == len(other[0]) and shape_by(one) == shape_by(other):
                    met += 1
                    self.look_at(one, other)
                else:
                    refused(self, NoPair, matched, one, other)
        self.assertGreater(met, len(HEARTHS))

    def look_at(self, one, other):
        before = copy.deepcopy((one, other))
        told = matched(one, other)
        self.assertEqual((one, other), before)
        self.assertIs(type(told), list)
        self.assertTrue(all(type(pair) is tuple for pair in told))
        self.assertEqual([order for order, new in told], one)
        self.assertEqual(sorted(new for order, new in told), other)
        for order, new in told:
            self.assertEqual(second_of(order), second_of(new))
        led = [other.index(new) for order, new in told]
        for table, new in zip(number_tables(one), number_tables(other), strict=True):
            self.assertEqual(table, [[new[at][place] for place in led] for at in led])

    def test_told_lists_are_new(self):
        for one in HEARTHS:
            for other in HEARTHS:
                if shape_by(one) == shape_by(other):
                    asker_owns(self, matched, list(one), list(other))


if __name__ == "__main__":
    unittest.main()
