"""Points 2 and 25: moves, plain rows and roads of moves."""

import copy
import itertools
import random
import unittest

from tests.support import all_orders, asker_owns, drawn_letters, moved_by_words, refused
from undercells.errors import TooMany
from undercells.moves import moved, plain_row, road_of_moves
from undercells.tables import is_table, tables

GREAT = 10 ** 9


class PlainRows(unittest.TestCase):

    def test_by_hand(self):
        self.assertEqual(plain_row([]), [])
        self.assertEqual(plain_row([[4]]), [4])
        self.assertEqual(plain_row([[1, 1, 2]]), [1, 1, 2])
        self.assertEqual(plain_row([[1], [2], [3]]), [3, 2, 1])
        self.assertEqual(plain_row([[1, 1, 4], [2, 3], [5]]), [5, 2, 3, 1, 1, 4])

    def test_it_has_the_table_as_its_first_one(self):
        draw = random.Random(171)
        for k in range(120):
            table = tables(drawn_letters(draw, k % 41, [2, 4, 9, 40, GREAT][k % 5]))[0]
            told = plain_row(table)
            self.assertEqual(tables(told)[0], table)
            self.assertEqual(told, sum(table[::-1], []))

    def test_told_rows_are_new(self):
        for table in [[], [[4]], [[1, 1, 2]], [[1, 1, 4], [2, 3], [5]]]:
            asker_owns(self, plain_row, table)


class Moved(unittest.TestCase):

    def look_at(self, row):
        told = moved(row)
        self.assertIs(type(told), list)
        self.assertTrue(all(type(new) is list for new in told))
        self.assertEqual(told, moved_by_words(row), row)

    def test_fewer_than_three_letters(self):
        for row in [[], [1], [GREAT], [1, 2], [2, 1], [1, 1]]:
            self.assertEqual(moved(row), [])

    def test_each_move_forth_and_back(self):
        # x, z, y and z, x, y where x is at most y, and y below z.
        self.assertEqual(moved([1, 3, 2]), [[3, 1, 2]])
        self.assertEqual(moved([3, 1, 2]), [[1, 3, 2]])
        self.assertEqual(moved([1, 2, 1]), [[2, 1, 1]])
        self.assertEqual(moved([2, 1, 1]), [[1, 2, 1]])
        # y, x, z and y, z, x where x is below y, and y at most z.
        self.assertEqual(moved([2, 1, 3]), [[2, 3, 1]])
        self.assertEqual(moved([2, 3, 1]), [[2, 1, 3]])
        self.assertEqual(moved([2, 1, 2]), [[2, 2, 1]])
        self.assertEqual(moved([2, 2, 1]), [[2, 1, 2]])

    def test_rows_of_which_none_comes(self):
        for row in [[1, 2, 3], [3, 2, 1], [1, 1, 1], [1, 1, 2], [1, 2, 2], [1, 1, 2, 2, 3], [4, 3, 2, 1]]:
            self.assertEqual(moved(row), [])

    def test_all_small_rows(self):
        for many in range(6):
            for row in itertools.product(range(1, 5), repeat=many):
                self.look_at(list(row))

    def test_drawn(self):
        draw = random.Random(172)
        for k in range(150):
            self.look_at(drawn_letters(draw, k % 41, [2, 3, 6, 40, GREAT][k % 5]))

    def test_each_leads_back_and_keeps_the_first_table(self):
        draw = random.Random(173)
        for k in range(60):
            row = drawn_letters(draw, 3 + k % 38, [2, 4, 40][k % 3])
            for new in moved(row):
                self.assertIn(row, moved(new))
                self.assertEqual(tables(new)[0], tables(row)[0])

    def test_one_first_table_just_where_moves_lead(self):
        for rows in [
            [list(row) for row in itertools.product(range(1, 4), repeat=4)], [list(order) for order in all_orders(5)],
        ]:
            left = sorted(rows)
            while left:
                met = [left[0]]
                for row in met:
                    met.extend(new for new in moved(row) if new not in met)
                table = tables(left[0])[0]
                self.assertEqual(sorted(met), [row for row in rows if tables(row)[0] == table])
                left = [row for row in left if row not in met]

    def test_told_lists_are_new(self):
        for row in [[], [1, 2], [1, 3, 2], [2, 1, 3, 1, 2, 2], [3, 1, 2, 2] * 10]:
            asker_owns(self, moved, row)


class RoadsOfMoves(unittest.TestCase):

    def look_at(self, row):
        before = copy.deepcopy(row)
        told = road_of_moves(row)
        self.assertEqual(row, before)
        self.assertIs(type(told), list)
        self.assertEqual(told[0], row)
        for ahead, new in zip(told, told[1:]):
            self.assertIs(type(new), list)
            self.assertIn(new, moved_by_words(ahead))
        table = tables(row)[0]
        self.assertTrue(is_table(table))
        self.assertEqual(told[-1], sum(table[::-1], []))
        return told

    def test_all_small_rows(self):
        for many in range(5):
            for row in itertools.product(range(1, 5), repeat=many):
                self.look_at(list(row))

    def test_orders(self):
        for n in range(1, 7):
            for order in all_orders(n):
                self.look_at(list(order))

    def test_drawn(self):
        draw = random.Random(174)
        for k in range(400):
            self.look_at(drawn_letters(draw, k % 13, [2, 3, 5, 12, GREAT][k % 5]))

    def test_twelve_letters(self):
        for row in [
            list(range(1, 13)), list(range(12, 0, -1)), [1] * 12, [GREAT, 1] * 6, [1, GREAT] * 6, [3, 2, 1] * 4,
            [1, 2, 3] * 4, [6, 5, 4, 3, 2, 1] * 2, list(range(7, 13)) + list(range(1, 7)),
        ]:
            self.look_at(row)

    def test_of_a_row_that_is_plain_already(self):
        self.assertEqual(road_of_moves([]), [[]])
        draw = random.Random(175)
        for k in range(120):
            row = plain_row(tables(drawn_letters(draw, k % 13, [2, 4, 12][k % 3]))[0])
            self.assertEqual(self.look_at(row)[-1], row)
            self.assertEqual(road_of_moves(row), [row])
        self.assertEqual(road_of_moves([4, 5, 2, 3]), [[4, 5, 2, 3]])

    def test_no_row_is_come_by_twice(self):
        draw = random.Random(176)
        for k in range(100):
            told = road_of_moves(drawn_letters(draw, 5 + k % 8, 12))
            self.assertEqual(len(told), len({tuple(row) for row in told}))

    def test_too_many_letters(self):
        for many in [13, 14, 20, 39, 40]:
            for row in [[1] * many, list(range(1, many + 1)), list(range(many, 0, -1))]:
                refused(self, TooMany, road_of_moves, row)

    def test_told_lists_are_new(self):
        for row in [[], [1], [1, 2], [1, 3, 2], [4, 5, 2, 3], [6, 5, 4, 3, 2, 1] * 2, [2, 3, 1] * 4]:
            asker_owns(self, road_of_moves, row)


if __name__ == "__main__":
    unittest.main()
