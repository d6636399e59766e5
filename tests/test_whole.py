"""Point 3: what is promised over the whole program, one part held against the other."""

import itertools
import random
import unittest

from tests.support import (
    THIRTY, all_orders, all_words, alone, drawn_letters, drawn_pairs, drawn_sum, falling, inversions, last_word, rising,
    small_sum, swapped, walked,
)
from undercells.below import bar, is_below
from undercells.chains import between, chain, kept_places
from undercells.checker import holds
from undercells.counts import count, weighed
from undercells.desk import Desk
from undercells.hearths import both_hearths, left_hearths, right_hearths
from undercells.kept import kept_sum, lead
from undercells.moves import moved, plain_row, road_of_moves
from undercells.numbers import matched, number_tables
from undercells.orders import after, length, numbered
from undercells.parts import polynomial
from undercells.plains import first_four, pairs_below
from undercells.polys import plus, times
from undercells.rests import rest
from undercells.rising import rising_rows
from undercells.roads import fall, road
from undercells.sums import by_exchange, product, scaled
from undercells.tables import row_back, shape, tables
from undercells.texts import read_order, read_poly, read_word, show_order, show_poly, show_word
from undercells.turning import turning
from undercells.words import first_word


def under_by_word(one, word):
    """Whether of a word numbers can be left out such that a shortest word of one is left, by trying all."""
    return any(walked(len(one), left) == one for left in itertools.combinations(word, inversions(one)))


def in_v_by_polys(poly):
    """A polynomial in z with v, less the back of v, put for z, by the program's sums and products."""
    told = []
    for power, number in poly:
        part = [(0, number)]
        for k in range(power):
            part = times(part, [(-1, -1), (1, 1)])
        told = plus(told, part)
    return told


class Below(unittest.TestCase):

    def look_at(self, one, other):
        due = is_below(one, other)
        self.assertIs(type(due), bool)
        first = bar(one, other)
        places = kept_places(one, other)
        climb = chain(one, other)
        self.assertEqual((first is None, places is not None, climb is not None), (due, due, due), (one, other))
        if due:
            self.assertIs(holds(("below", one, other, places)), True)
            self.assertEqual((climb[0], climb[-1]), (one, other))
            self.assertIs(holds(("chain", climb)), True)
        else:
            self.assertIs(holds(("bar", one, other, first)), True)
        return due

    def test_all_small_orders(self):
        for n in range(1, 6):
            for one, other in itertools.product(all_orders(n), all_orders(n)[::1 if n < 5 else 7]):
                self.look_at(one, other)

    def test_by_each_shortest_word(self):
        for n in range(1, 5):
            for other in all_orders(n):
                words = all_words(other)
                for one in all_orders(n):
                    due = is_below(one, other)
                    self.assertTrue(all(under_by_word(one, word) == due for word in words))

    def test_drawn(self):
        met = [self.look_at(one, other) for one, other in drawn_pairs(231, 60)]
        self.assertGreater(min(met.count(True), met.count(False)), 30)

    def test_no_bar_where_one_is_below(self):
        for one, other in itertools.product(all_orders(4), all_orders(4)[::3]):
            held = any(holds(("bar", one, other, (i, j))) for i in range(1, 5) for j in range(1, 5))
            self.assertEqual(held, not is_below(one, other))

    def test_between_by_below(self):
        for one, other in itertools.product(all_orders(4), repeat=2):
            told = between(one, other)
            self.assertEqual(told, [
                order for order in all_orders(4) if is_below(one, order) and is_below(order, other)])
            if one != other:
                self.assertEqual(sum((-1) ** length(order) for order in told), 0)


class Sums(unittest.TestCase):

    def test_whatever_words_are_taken(self):
        draw = random.Random(232)
        for n in range(2, 5):
            one = small_sum(draw, n)
            for order in all_orders(n):
                due = product(one, alone(order))
                for word in all_words(order)[:6] + [last_word(order), first_word(order)]:
                    told = one
                    for k in word:
                        told = by_exchange(told, k)
                    self.assertEqual(told, due)

    def test_the_turning_twice_leads_home(self):
        draw = random.Random(233)
        for n in range(1, 6):
            for one in [small_sum(draw, n, 40), drawn_sum(draw, n, 40), []]:
                self.assertEqual(turning(turning(one)), one)

    def test_the_turning_of_products(self):
        draw = random.Random(234)
        for n in range(1, 6):
            for k in range(6):
                one, other = small_sum(draw, n), small_sum(draw, n)
                self.assertEqual(turning(product(one, other)), product(turning(one), turning(other)))
        one, other = drawn_sum(draw, 4, 6, (8, 60, THIRTY)), drawn_sum(draw, 4, 6, (8, 60, THIRTY))
        self.assertEqual(turning(product(one, other)), product(turning(one), turning(other)))

    def test_what_the_turning_leaves(self):
        for n in range(1, 5):
            for other in all_orders(n):
                left = dict(turning(alone(other)))
                for one in all_orders(n):
                    self.assertEqual(left.get(one, []), in_v_by_polys(rest(one, other)))

    def test_rests_by_rising_rows(self):
        pairs = list(itertools.product(all_orders(4), repeat=2))
        pairs += [(rising(5), falling(5)), ((2, 1, 3, 5, 4), (5, 2, 4, 3, 1)), ((1, 3, 2, 4, 5), (4, 5, 3, 1, 2))]
        for one, other in pairs:
            counts = {}
            for row in rising_rows(one, other):
                counts[len(row)] = counts.get(len(row), 0) + 1
            self.assertEqual(sorted(counts.items()), rest(one, other), (one, other))


class KeptSums(unittest.TestCase):

    def look_at(self, order):
        told = kept_sum(order)
        self.assertEqual(turning(told), told)
        self.assertIs(holds(("kept", order, told)), True)
        polys = dict(told)
        for lower in all_orders(len(order)):
            poly = polynomial(lower, order)
            self.assertEqual(poly, polys.get(lower, []), (lower, order))
            self.assertTrue(all(number > 0 for power, number in poly))
            self.assertEqual(lead(lower, order), dict(poly).get(1, 0))
        self.assertEqual(weighed(order), weighed(order)[::-1])
        self.look_at_plain(order, told)

    def look_at_plain(self, order, told):
        """Plain four ways."""
        four = first_four(order)
        plain = four is None
        self.assertEqual(len(pairs_below(order)) == length(order), plain)
        self.assertEqual(count(order) == count(order)[::-1], plain)
        self.assertEqual(all(len(poly) == 1 and poly[0][1] == 1 for lower, poly in told), plain)
        if plain:
            self.assertEqual(weighed(order), count(order))
        else:
            self.assertIs(holds(("four", order, four)), True)

    def test_all_small_orders(self):
        for n in range(1, 5):
            for order in all_orders(n):
                self.look_at(order)

    def test_five_things(self):
        for order in [(5, 2, 3, 4, 1), (4, 5, 3, 1, 2), (3, 4, 5, 1, 2), (2, 4, 1, 5, 3), (1, 4, 5, 2, 3)]:
            self.look_at(order)

    def test_plain_four_ways_of_five_things(self):
        for order in all_orders(5):
            self.look_at_plain(order, kept_sum(order))


class Rows(unittest.TestCase):

    def test_rows_tables_and_moves(self):
        draw = random.Random(235)
        for k in range(150):
            row = drawn_letters(draw, k % 41, [2, 4, 12, 10 ** 9][k % 4])
            first, second = tables(row)
            self.assertEqual(row_back(first, second), row)
            self.assertEqual(tables(plain_row(first))[0], first)
            for new in moved(row):
                self.assertEqual(tables(new)[0], first)
                self.assertIs(holds(("moves", [row, new, row])), True)
            if len(row) <= 12:
                told = road_of_moves(row)
                self.assertEqual((told[0], told[-1]), (row, plain_row(first)))
                self.assertIs(holds(("moves", told)), True)

    def test_one_first_table_just_where_moves_lead(self):
        rows = [list(row) for row in itertools.product([1, 2, 3], repeat=5)]
        ends = [road_of_moves(row)[-1] for row in rows]
        for row, end in zip(rows, ends):
            self.assertEqual(end, plain_row(tables(row)[0]))
        # Each row that comes of one by a move has its end, so unlike ends are not joined.
        for row, end in zip(rows, ends):
            self.assertTrue(all(ends[rows.index(new)] == end for new in moved(row)))

    def test_words_by_roads_and_falls(self):
        draw = random.Random(236)
        for k in range(60):
            n = 2 + k % 8
            word = [draw.randrange(1, n) for many in range(k % 9)]
            words = fall(n, word)
            self.assertIs(holds(("road", n, words)), True)
            order = walked(n, word)
            self.assertEqual(len(words[-1]), length(order))
            self.assertIs(holds(("road", n, road(n, words[-1], first_word(order)))), True)


class Hearths(unittest.TestCase):

    def test_by_tables(self):
        for n in range(1, 5):
            for hearths, told in [
                (right_hearths(n), lambda order: tables(list(order))[0]),
                (left_hearths(n), lambda order: tables(list(order))[1]),
                (both_hearths(n), lambda order: shape(tables(list(order))[0])),
            ]:
                self.assertEqual(sorted(sum(hearths, [])), all_orders(n))
                for one, other in itertools.product(hearths, repeat=2):
                    alike = {repr(told(order)) for order in one + other}
                    self.assertEqual(len(alike), 1 if one == other else 2)

    def test_numbers_by_the_matching(self):
        for n in range(1, 5):
            for one, other in itertools.product(right_hearths(n), repeat=2):
                if shape(tables(list(one[0]))[0]) == shape(tables(list(other[0]))[0]):
                    led = [other.index(new) for order, new in matched(one, other)]
                    for table, new in zip(number_tables(one), number_tables(other), strict=True):
                        self.assertEqual(table, [[new[at][place] for place in led] for at in led])


class Desks(unittest.TestCase):

    def test_the_desk_says_what_the_program_tells(self):
        draw = random.Random(237)
        desk = Desk()
        for k in range(60):
            n = 1 + k % 4
            one, other = [numbered(n, draw.randrange([1, 1, 2, 6, 24][n])) for side in range(2)]
            desk.say(f"keep one {show_order(one)}")
            desk.say(f"keep other {show_order(other)}")
            self.assertEqual(read_order(desk.say("show one")), one)
            self.assertEqual(read_word(desk.say("word one")), first_word(one))
            self.assertEqual(read_poly(desk.say("kept one other")), polynomial(one, other))
            self.assertEqual(desk.say("below one other") == "yes", is_below(one, other))
            self.assertEqual(desk.say("plain one") == "yes", first_four(one) is None)
            self.assertEqual(int(desk.say("between one other")), len(between(one, other)))
            desk.say(f"lead one {show_word(first_word(other))}")
            self.assertEqual(read_order(desk.say("show one")), after(one, other))
            desk.say("undo")
            self.assertEqual(read_order(desk.say("show one")), one)

    def test_texts_of_kept_polynomials(self):
        for other in all_orders(4) + [(5, 2, 3, 4, 1)]:
            for lower, poly in kept_sum(other):
                self.assertEqual(read_poly(show_poly(poly)), poly)
        self.assertEqual(scaled(read_poly("v^-1 - v"), alone(swapped(rising(3), 1, 2))), [
            ((2, 1, 3), [(-1, 1), (1, -1)])])


if __name__ == "__main__":
    unittest.main()
