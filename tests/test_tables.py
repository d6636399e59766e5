"""Points 2, 23 and 24: tables, and the way back."""

import copy
import random
import unittest

from tests.support import (
    NO_WHOLES, THIRTY, all_orders, asker_owns, back_of, drawn_letters, drawn_orders, falling, nested, refused, rising,
)
from undercells.errors import NoTables
from undercells.tables import is_table, put_in, row_back, shape, tables

GREAT = 10 ** 9


def is_table_by_words(thing):
    """Whether a thing is a table, by the words of 23, apart from the program."""
    if type(thing) is not list:
        return False
    for row in thing:
        if type(row) is not list or not row:
            return False
        if any(type(letter) is not int or letter < 1 or letter > GREAT for letter in row):
            return False
        if any(row[at] > row[at + 1] for at in range(len(row) - 1)):
            return False
    for above, row in zip(thing, thing[1:]):
        if len(row) > len(above) or any(row[at] <= above[at] for at in range(len(row))):
            return False
    return True


def put_by_words(table, letter):
    """The table that comes by putting a letter in, by the words of 23, row by row."""
    if not table:
        return [[letter]]
    row = table[0]
    greater = [at for at in range(len(row)) if row[at] > letter]
    if not greater:
        return [row + [letter]] + table[1:]
    at = greater[0]
    return [row[:at] + [letter] + row[at + 1:]] + put_by_words(table[1:], row[at])


def tables_by_words(row):
    """Both tables of a row of letters; the new place is sought by the shapes."""
    first, second = [], []
    for k, letter in enumerate(row, 1):
        after = put_by_words(first, letter)
        new = [at for at in range(len(after)) if at == len(first) or len(after[at]) > len(first[at])]
        assert len(new) == 1
        if new[0] == len(second):
            second.append([])
        second[new[0]].append(k)
        first = after
    return (first, second)


def fillings(lengths):
    """All second tables of a shape."""
    if sum(lengths) == 0:
        return [[[] for length in lengths]]
    found = []
    for at, length in enumerate(lengths):
        if length and (at + 1 == len(lengths) or lengths[at + 1] < length):
            less = lengths[:at] + [length - 1] + lengths[at + 1:]
            for filling in fillings(less):
                filling[at].append(sum(lengths))
                found.append(filling)
    return found


def some_rows(seed, many, most=40):
    """Rows of letters of every length, with few and with many letters alike."""
    draw = random.Random(seed)
    tops = [1, 2, 3, 5, 12, 100, GREAT]
    return [drawn_letters(draw, k % (most + 1), tops[k % len(tops)]) for k in range(many)]


class Tables(unittest.TestCase):

    def look_at(self, thing, due):
        before = copy.deepcopy(thing)
        self.assertIs(is_table(thing), due, thing)
        self.assertEqual(repr(thing), repr(before))
        self.assertEqual(is_table_by_words(thing), due, thing)

    def test_good_ones(self):
        for thing in [
            [], [[1]], [[GREAT]], [[1, 1]], [[1, 1, 2, 2]], [[1], [2]], [[1, 1], [2]], [[1, 1], [2, 2]],
            [[1, 2], [2, 3]], [[1, 3], [2]], [[1, 5], [2], [3]], [[1, GREAT], [GREAT]], [[1, 1, 1], [2, 2], [3]],
            [[k] for k in range(1, 101)], [list(range(1, 101))], [[7] * 90], [[k] * 9 for k in range(1, 10)],
            [[1] * 41], [[1] * 30, [2] * 30], [[k] for k in range(1, 1800)],
        ]:
            self.look_at(thing, True)

    def test_letters(self):
        for wrong in NO_WHOLES + [0, -1, GREAT + 1, THIRTY, -THIRTY]:
            for thing in [[[wrong]], [[1, wrong]], [[wrong, GREAT]], [[1], [wrong]], [[1, 1], [2, wrong]]]:
                self.look_at(thing, False)
        for letter in [1, 2, GREAT - 1, GREAT]:
            self.look_at([[letter]], True)
            self.look_at([[1, letter]], True)

    def test_truths_are_no_letters(self):
        for thing in [[[True]], [[True, 1]], [[1, True]], [[1, 1], [True]], [[True], [2]], [[False]], [True], True]:
            self.look_at(thing, False)

    def test_tuples_in_the_place_of_lists(self):
        for thing in [(), ((1,),), ([1],), [(1,)], [[1, 1], (2,)], [(1, 1), [2]], ([1, 1], [2]), [[(1,)]], [()]]:
            self.look_at(thing, False)

    def test_other_things(self):
        for thing in [None, True, False, 0, 1, "", "1", "[]", [1], [1, 2], [None], ["1"], [[[]]], [[[1]]], [[1], 2]]:
            self.look_at(thing, False)
        for depth in range(9):
            for inner in [1, [], [1], (), "a", None]:
                if nested(depth, inner) not in [[], [[1]]]:
                    self.look_at(nested(depth, inner), False)

    def test_empty_rows(self):
        for thing in [[[]], [[], []], [[1], []], [[], [1]], [[1, 1], [], [2]], [[1, 1], [2], []]]:
            self.look_at(thing, False)

    def test_rows_that_grow(self):
        for thing in [[[1], [2, 3]], [[1, 1], [2], [3, 3]], [[1, 1], [2, 2, 2]], [[1] * 30, [2] * 31]]:
            self.look_at(thing, False)

    def test_letters_that_fall(self):
        for thing in [[[2, 1]], [[1, 3, 2]], [[1, 1, 1], [3, 2]], [[GREAT, 1]], [[5] * 50 + [4]]]:
            self.look_at(thing, False)

    def test_columns_that_do_not_rise(self):
        for thing in [
            [[1], [1]], [[2], [1]], [[1, 2], [2, 2]], [[1, 3], [2, 2]], [[1], [2], [2]], [[1, 1], [2, 2], [3, 2]],
            [[1] * 40, [2] * 39 + [1]], [[1, 4], [2], [1]],
        ]:
            self.look_at(thing, False)

    def test_drawn(self):
        draw = random.Random(161)
        met = {True: 0, False: 0}
        for k in range(3000):
            thing = [
                [draw.randint(1 + at, 3 + at) for place in range(draw.randint(1, 3))]
                for at in range(draw.randint(1, 3))
            ]
            due = is_table_by_words(thing)
            met[due] += 1
            self.look_at(thing, due)
        self.assertGreater(min(met.values()), 200, met)

    def test_shape(self):
        for table, due in [
            ([], []), ([[5]], [1]), ([[1, 1]], [2]), ([[1], [2], [3]], [1, 1, 1]), ([[1, 1, 4], [2, 2], [3]], [3, 2, 1]),
            ([[1] * 40], [40]), ([[k] for k in range(1, 41)], [1] * 40),
        ]:
            told = shape(table)
            self.assertIs(type(told), list)
            self.assertEqual(told, due)
            asker_owns(self, shape, table)


class PuttingIn(unittest.TestCase):

    def test_into_no_rows(self):
        for letter in [1, 2, GREAT]:
            self.assertEqual(put_in([], letter), [[letter]])

    def test_at_the_end_of_a_row(self):
        self.assertEqual(put_in([[1]], 2), [[1, 2]])
        self.assertEqual(put_in([[1]], 1), [[1, 1]])
        self.assertEqual(put_in([[1, 4], [2]], 4), [[1, 4, 4], [2]])
        self.assertEqual(put_in([[1] * 39], 1), [[1] * 40])
        self.assertEqual(put_in([[GREAT]], GREAT), [[GREAT, GREAT]])

    def test_into_a_row(self):
        self.assertEqual(put_in([[2]], 1), [[1], [2]])
        self.assertEqual(put_in([[1, 3]], 2), [[1, 2], [3]])
        self.assertEqual(put_in([[1, 3, 3]], 1), [[1, 1, 3], [3]])
        self.assertEqual(put_in([[1, 3, 3], [2]], 2), [[1, 2, 3], [2, 3]])
        self.assertEqual(put_in([[GREAT]], 1), [[1], [GREAT]])

    def test_through_several_rows(self):
        self.assertEqual(put_in([[1, 4], [2, 5], [3]], 3), [[1, 3], [2, 4], [3, 5]])
        self.assertEqual(put_in([[2], [3], [4]], 1), [[1], [2], [3], [4]])
        self.assertEqual(put_in([[1, 2, 2], [2, 3, 4], [4, 4]], 1), [[1, 1, 2], [2, 2, 4], [3, 4], [4]])
        self.assertEqual(put_in([[k] for k in range(2, 41)], 1), [[k] for k in range(1, 41)])

    def test_drawn(self):
        for row in some_rows(162, 120, 39):
            table = []
            for letter in row:
                due = put_by_words(table, letter)
                before = copy.deepcopy(table)
                told = put_in(table, letter)
                self.assertEqual(told, due)
                self.assertEqual(table, before)
                self.assertTrue(is_table_by_words(told))
                table = told

    def test_told_tables_are_new(self):
        for table, letter in [
            ([], 1), ([[1]], 1), ([[2]], 1), ([[1, 4], [2, 5], [3]], 3), ([[1, 4], [2, 5], [3]], 9),
            ([[1, 1], [2, 2], [3, 3]], 1),
        ]:
            asker_owns(self, put_in, table, letter)


class TablesOfRows(unittest.TestCase):

    def look_at(self, row):
        told = tables(row)
        self.assertIs(type(told), tuple)
        self.assertEqual(len(told), 2)
        self.assertEqual(told, tables_by_words(row), row)
        first, second = told
        self.assertTrue(is_table(first) and is_table(second))
        self.assertEqual(shape(first), shape(second))
        self.assertEqual(sorted(letter for line in first for letter in line), sorted(row))
        self.assertEqual(sorted(number for line in second for number in line), list(range(1, len(row) + 1)))

    def test_by_hand(self):
        self.assertEqual(tables([]), ([], []))
        self.assertEqual(tables([7]), ([[7]], [[1]]))
        self.assertEqual(tables([1, 1, 1]), ([[1, 1, 1]], [[1, 2, 3]]))
        self.assertEqual(tables([3, 2, 1]), ([[1], [2], [3]], [[1], [2], [3]]))
        self.assertEqual(tables([2, 3, 1]), ([[1, 3], [2]], [[1, 2], [3]]))
        self.assertEqual(tables([5, 2, 5, 1, 2]), ([[1, 2], [2, 5], [5]], [[1, 3], [2, 5], [4]]))

    def test_of_no_letters_of_one_and_of_forty(self):
        for row in [
            [], [1], [GREAT], list(range(1, 41)), list(range(40, 0, -1)), [GREAT] * 40, [1, GREAT] * 20,
            [GREAT, 1] * 20, [3, 1, 2, 2] * 10,
        ]:
            self.look_at(row)

    def test_drawn(self):
        for row in some_rows(163, 200):
            self.look_at(row)

    def test_orders(self):
        for n in range(1, 6):
            for order in all_orders(n):
                self.look_at(list(order))

    def test_the_back_has_the_two_tables_exchanged(self):
        orders = [order for n in range(1, 6) for order in all_orders(n)] + drawn_orders(164, 60)
        for order in orders + [rising(20), falling(20)]:
            first, second = tables(list(order))
            self.assertEqual(tables(list(back_of(order))), (second, first), order)

    def test_told_tables_are_new(self):
        for row in [[], [1], [1, 1], [2, 1], [3, 1, 2, 2], list(range(40, 0, -1)), [1] * 40]:
            asker_owns(self, tables, row)


class RowsBack(unittest.TestCase):

    def look_at(self, first, second):
        told = row_back(first, second)
        self.assertIs(type(told), list)
        self.assertEqual(tables_by_words(told), (first, second))
        return told

    def test_by_hand(self):
        self.assertEqual(row_back([], []), [])
        self.assertEqual(row_back([[7]], [[1]]), [7])
        self.assertEqual(row_back([[1, 3], [2]], [[1, 2], [3]]), [2, 3, 1])
        self.assertEqual(row_back([[1, 3], [2]], [[1, 3], [2]]), [2, 1, 3])
        self.assertEqual(row_back([[1, 1], [2]], [[1, 2], [3]]), [1, 2, 1])
        self.assertEqual(row_back([[1, 2], [2, 5], [5]], [[1, 3], [2, 5], [4]]), [5, 2, 5, 1, 2])

    def test_of_the_tables_of_many_rows(self):
        for row in some_rows(165, 300) + [[1] * 40, list(range(40, 0, -1)), list(range(1, 41))]:
            self.assertEqual(row_back(*tables_by_words(row)), row)
            self.assertEqual(row_back(*tables(row)), row)
        for n in range(1, 6):
            for order in all_orders(n):
                self.assertEqual(row_back(*tables(list(order))), list(order))

    def test_of_every_pair_of_one_shape(self):
        draw = random.Random(166)
        for lengths in [[1], [2], [1, 1], [2, 1], [3, 1], [2, 2], [3, 2], [3, 2, 1], [2, 2, 1], [1, 1, 1, 1], [4, 3]]:
            found = []
            seconds = fillings(lengths)
            first = [[at + 1 + place // 2 for place in range(length)] for at, length in enumerate(lengths)]
            for second in seconds:
                found.append(tuple(self.look_at(first, second)))
                self.look_at(draw.choice(seconds), second)
            self.assertEqual(len(set(found)), len(seconds))

    def test_one_table_handed_in_twice(self):
        for table in [[[1]], [[1, 3], [2]], [[1, 2, 3]], [[1], [2], [3]]]:
            before = copy.deepcopy(table)
            told = row_back(table, table)
            self.assertEqual(tables(told), (before, before))
            self.assertEqual(table, before)

    def test_unlike_shapes(self):
        for first, second in [
            ([], [[1]]), ([[1]], []), ([[1]], [[1, 2]]), ([[1, 1]], [[1]]), ([[1, 1]], [[1], [2]]),
            ([[1], [2]], [[1, 2]]), ([[1, 1], [2]], [[1, 2, 3]]), ([[1, 1, 1], [2]], [[1, 2], [3, 4]]),
        ]:
            refused(self, NoTables, row_back, first, second)

    def test_second_tables_that_are_none(self):
        for first, second in [
            ([[1, 1]], [[1, 1]]), ([[1, 1]], [[2, 2]]), ([[1, 1]], [[2, 3]]), ([[1, 1]], [[1, 3]]),
            ([[1, 1]], [[2, 1]]), ([[1]], [[2]]), ([[1]], [[0]]), ([[1, 1]], [[0, 1]]), ([[1], [2]], [[2], [1]]),
            ([[1], [2]], [[1], [1]]), ([[1, 1], [2]], [[1, 2], [2]]), ([[1, 1], [2]], [[2, 3], [1]]),
            ([[1, 1], [2, 2]], [[1, 4], [2, 3]]), ([[1, 1], [2, 2]], [[1, 2], [4, 3]]), ([[1]], [[-1]]),
            ([[1, 1], [2]], [[1, 2], [4]]), ([[1]], [[GREAT]]), ([[1]], [[THIRTY]]), ([[1, 1], [2]], [[3, 4], [5]]),
        ]:
            refused(self, NoTables, row_back, first, second)

    def test_truths(self):
        for first, second in [
            ([[1]], [[True]]), ([[True]], [[1]]), ([[1, 1]], [[True, 2]]), ([[1, 1], [2]], [[True, 3], [2]]),
            ([[True, 1]], [[1, 2]]), (True, False), ([[False]], [[1]]),
        ]:
            refused(self, NoTables, row_back, first, second)

    def test_first_tables_that_are_none(self):
        for first in [
            [[2, 1]], [[0, 1]], [[1, GREAT + 1]], [[1, None]], [[1, "2"]], [[1, [2]]], [(1, 2)], ([1, 2],), [[1, (2,)]],
        ]:
            refused(self, NoTables, row_back, first, [[1, 2]])
        for first in [[[1], [1]], [[2], [1]], [[1], []], [[], [1]], [[1], (2,)], [[1], None], [[1], 2]]:
            refused(self, NoTables, row_back, first, [[1], [2]])
        refused(self, NoTables, row_back, [[1], [2, 3]], [[1], [2, 3]])
        refused(self, NoTables, row_back, [[]], [[]])
        refused(self, NoTables, row_back, [[1], []], [[1], []])

    def test_more_than_forty_places(self):
        for many in [41, 42, 60, 900]:
            refused(self, NoTables, row_back, [[1] * many], [list(range(1, many + 1))])
            refused(self, NoTables, row_back, [[k] for k in range(1, many + 1)], [[k] for k in range(1, many + 1)])
        many = 21
        refused(
            self, NoTables, row_back, [[1] * many, [2] * many],
            [list(range(1, many + 1)), list(range(many + 1, 2 * many + 1))])
        self.look_at([[1] * 20, [2] * 20], [list(range(1, 21)), list(range(21, 41))])
        self.look_at([[1] * 40], [list(range(1, 41))])

    def test_things_that_are_no_tables_at_all(self):
        good = [[1, 2], [3]]
        things = NO_WHOLES + [0, 1, THIRTY, (), [()], [[]], [[[1]]], "[[1]]", [None], [[None]], ([1],)]
        for thing in things + [nested(depth, inner) for depth in range(1, 9) for inner in [1, "a", (), None]]:
            refused(self, NoTables, row_back, thing, good)
            refused(self, NoTables, row_back, good, thing)
            if thing not in [[], [[1]]]:
                refused(self, NoTables, row_back, thing, thing)

    def test_told_rows_are_new(self):
        for row in [[], [1], [2, 1], [5, 2, 5, 1, 2], list(range(40, 0, -1))]:
            asker_owns(self, row_back, *tables(row))


if __name__ == "__main__":
    unittest.main()
