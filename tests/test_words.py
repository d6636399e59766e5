"""Points 2 and 6: words."""

import itertools
import unittest

from tests.support import (
    NO_WHOLES, THIRTY, all_orders, asker_owns, drawn_orders, falling, inversions, nested, refused, rising, walked,
)
from undercells.errors import NoWord, TooMany
from undercells.orders import after
from undercells.words import first_word, is_shortest, led_by, many_words


def all_shortest(order):
    """All shortest words of an order, sought among all words of so many numbers."""
    n = len(order)
    many = inversions(order)
    return [list(word) for word in itertools.product(range(1, n), repeat=many) if walked(n, word) == order]


def words_by_length(n):
    """For each order of n things its shortest words, grown number by number."""
    grown = {rising(n): [[]]}
    level = dict(grown)
    while level:
        longer = {}
        for order, words in level.items():
            for k in range(1, n):
                if order[k - 1] < order[k]:
                    things = list(order)
                    things[k - 1], things[k] = things[k], things[k - 1]
                    longer.setdefault(tuple(things), []).extend(word + [k] for word in words)
        grown.update(longer)
        level = longer
    return grown


class LedBy(unittest.TestCase):

    def test_no_numbers(self):
        for n in range(1, 21):
            self.assertEqual(led_by(n, []), rising(n))
            self.assertIs(is_shortest(n, []), True)

    def test_first_number_first(self):
        self.assertEqual(led_by(3, [1, 2]), (2, 3, 1))
        self.assertEqual(led_by(3, [2, 1]), (3, 1, 2))
        self.assertEqual(led_by(2, [1, 1]), (1, 2))
        self.assertIsInstance(led_by(3, [1]), tuple)
        for n in range(2, 5):
            for many in range(5):
                for word in itertools.product(range(1, n), repeat=many):
                    self.assertEqual(led_by(n, list(word)), walked(n, word))

    def test_word_behind_a_word(self):
        for n in range(2, 5):
            words = [list(w) for many in range(4) for w in itertools.product(range(1, n), repeat=many)]
            for one, other in itertools.product(words, repeat=2):
                self.assertEqual(led_by(n, one + other), after(led_by(n, one), led_by(n, other)))

    def test_many_numbers(self):
        word = [1 + k * 7 % 19 for k in range(200)]
        self.assertEqual(led_by(20, word), walked(20, word))
        self.assertIs(is_shortest(20, word), False)
        self.assertEqual(led_by(2, [1] * 200), (1, 2))
        self.assertEqual(led_by(2, [1] * 199), (2, 1))
        self.assertEqual(led_by(20, [19] * 199), rising(18) + (20, 19))
        for n, long in [(20, word + [1]), (2, [1] * 201), (2, [1] * 202), (20, [19] * 201), (2, [1] * 1990)]:
            refused(self, NoWord, led_by, n, long)
            refused(self, NoWord, is_shortest, n, long)

    def test_no_word(self):
        for n in [1, 2, 3, 9, 20]:
            for wrong in NO_WHOLES + [0, -1, n, n + 1, 20, THIRTY, -THIRTY, nested(7, 1)]:
                refused(self, NoWord, led_by, n, [wrong])
                refused(self, NoWord, is_shortest, n, [wrong])
                if n > 1:
                    for word in [[1, wrong], [wrong, 1], [n - 1] * 9 + [wrong]]:
                        refused(self, NoWord, led_by, n, word)
                        refused(self, NoWord, is_shortest, n, word)

    def test_one_thing_has_the_word_without_numbers_alone(self):
        self.assertEqual(led_by(1, []), (1,))
        refused(self, NoWord, led_by, 1, [1])
        refused(self, NoWord, led_by, 1, [0])

    def test_what_is_handed_in_stays(self):
        asker_owns(self, led_by, 4, [1, 2, 3, 1])
        asker_owns(self, is_shortest, 4, [1, 2, 3, 1])


class Shortest(unittest.TestCase):

    def test_as_many_numbers_as_wrong_pairs(self):
        for n in range(2, 5):
            for many in range(7):
                for word in itertools.product(range(1, n), repeat=many):
                    self.assertIs(is_shortest(n, list(word)), inversions(walked(n, word)) == many)

    def test_by_hand(self):
        self.assertIs(is_shortest(3, [1, 2, 1]), True)
        self.assertIs(is_shortest(3, [1, 2, 1, 2]), False)
        self.assertIs(is_shortest(2, [1, 1]), False)


class FirstWord(unittest.TestCase):

    def test_first_of_all_shortest_words(self):
        for n in range(1, 5):
            for order in all_orders(n):
                self.assertEqual(first_word(order), min(all_shortest(order)))

    def test_five_things(self):
        for order, words in words_by_length(5).items():
            self.assertEqual(first_word(order), min(words))

    def test_many_things(self):
        for order in drawn_orders(11, 60, 6, 20):
            word = first_word(order)
            self.assertEqual(walked(len(order), word), order)
            self.assertEqual(len(word), inversions(order))
            self.assertIs(is_shortest(len(order), word), True)
            # No other number that a shortest word can begin with is smaller.
            left = order
            for k in word:
                begin = [t for t in range(1, len(order)) if left.index(t) > left.index(t + 1)]
                self.assertEqual(k, min(begin))
                left = tuple({k: k + 1, k + 1: k}.get(t, t) for t in left)

    def test_rising_and_falling(self):
        for n in range(1, 21):
            self.assertEqual(first_word(rising(n)), [])
            expected = [k for top in range(1, n) for k in range(top, 0, -1)]
            self.assertEqual(first_word(falling(n)), expected)
        self.assertEqual(len(first_word(falling(20))), 190)

    def test_told_lists_are_new(self):
        for order in [(1,), (2, 1), (3, 1, 2), rising(20), falling(20)]:
            asker_owns(self, first_word, order)


class ManyWords(unittest.TestCase):

    def test_against_all_words(self):
        for n in range(1, 5):
            for order in all_orders(n):
                self.assertEqual(many_words(order), len(all_shortest(order)))

    def test_five_things(self):
        for order, words in words_by_length(5).items():
            self.assertEqual(many_words(order), len(words))

    def test_rising_and_falling(self):
        self.assertEqual([many_words(rising(n)) for n in range(1, 6)], [1, 1, 1, 1, 1])
        self.assertEqual([many_words(falling(n)) for n in range(1, 6)], [1, 1, 2, 16, 768])

    def test_more_than_five_things(self):
        for n in range(6, 21):
            refused(self, TooMany, many_words, rising(n))
            refused(self, TooMany, many_words, falling(n))
            refused(self, TooMany, many_words, (2, 1) + tuple(range(3, n + 1)))


if __name__ == "__main__":
    unittest.main()
