"""Points 2 and 7: roads and falls."""

import itertools
import random
import unittest

from tests.support import NO_WHOLES, THIRTY, asker_owns, inversions, refused, rising, swapped, walked
from undercells.errors import NoPair, NoWord, TooMany
from undercells.roads import fall, road


def comes_by_exchange(one, other):
    """Whether two neighbours that differ by 2 or more have changed places."""
    if len(one) != len(other):
        return False
    return any(
        abs(one[at] - one[at + 1]) >= 2
        and other == one[:at] + [one[at + 1], one[at]] + one[at + 2:]
        for at in range(len(one) - 1))


def comes_by_three(one, other):
    """Whether k, k + 1, k has become k + 1, k, k + 1, or the other way round."""
    for at in range(len(one) - 2):
        for k in range(1, 20):
            low, high = [k, k + 1, k], [k + 1, k, k + 1]
            for three, become in [(low, high), (high, low)]:
                if one[at:at + 3] == three and other == one[:at] + become + one[at + 3:]:
                    return True
    return False


def comes_by_leaving_out(one, other):
    """Whether k, k has been left out."""
    return any(
        one[at] == one[at + 1] and other == one[:at] + one[at + 2:]
        for at in range(len(one) - 1))


def is_reduced(n, word):
    return inversions(walked(n, word)) == len(word)


def drawn_shortest(draw, n, many):
    """A shortest word of n with as many numbers."""
    order = rising(n)
    word = []
    while len(word) < many:
        k = draw.randrange(1, n)
        if order[k - 1] < order[k]:
            order = swapped(order, k, k + 1)
            word.append(k)
    return word


def drawn_again(draw, order):
    """A shortest word of the order, drawn from its end."""
    word = []
    while True:
        ends = [k for k in range(1, len(order)) if order[k - 1] > order[k]]
        if not ends:
            return word
        k = draw.choice(ends)
        order = swapped(order, k, k + 1)
        word.insert(0, k)


class Walks(unittest.TestCase):

    def look_at_road(self, n, one, other):
        told = road(n, one, other)
        self.assertIsInstance(told, list)
        self.assertEqual((told[0], told[-1]), (one, other))
        for word in told:
            self.assertIsInstance(word, list)
        for ahead, word in zip(told, told[1:]):
            self.assertTrue(comes_by_exchange(ahead, word) or comes_by_three(ahead, word), (ahead, word))

    def look_at_fall(self, n, word):
        told = fall(n, word)
        self.assertIsInstance(told, list)
        self.assertEqual(told[0], word)
        self.assertEqual(walked(n, told[-1]), walked(n, word))
        self.assertTrue(is_reduced(n, told[-1]))
        for ahead, new in zip(told, told[1:]):
            self.assertIsInstance(new, list)
            self.assertTrue(
                comes_by_exchange(ahead, new) or comes_by_three(ahead, new) or comes_by_leaving_out(ahead, new),
                (ahead, new))


class Road(Walks):

    def test_all_pairs_of_shortest_words(self):
        for n, most in [(2, 1), (3, 3), (4, 6), (5, 4)]:
            by_order = {}
            for many in range(most + 1):
                for word in itertools.product(range(1, n), repeat=many):
                    if is_reduced(n, word):
                        by_order.setdefault(walked(n, word), []).append(list(word))
            for words in by_order.values():
                for one, other in itertools.product(words, repeat=2):
                    self.look_at_road(n, one, other)

    def test_drawn_words(self):
        draw = random.Random(21)
        for n in range(4, 10):
            for many in range(min(9, n * (n - 1) // 2 + 1)):
                for k in range(6):
                    one = drawn_shortest(draw, n, many)
                    self.look_at_road(n, one, drawn_again(draw, walked(n, one)))

    def test_most_words(self):
        # No order of at most nine things and eight wrong pairs was seen to have more shortest words.
        self.look_at_road(9, [1, 2, 1, 4, 5, 4, 7, 8], [7, 8, 5, 4, 5, 2, 1, 2])
        self.look_at_road(9, [1, 2, 3, 4, 5, 6, 7, 8], [1, 2, 3, 4, 5, 6, 7, 8])

    def test_from_a_word_to_itself(self):
        for n, word in [(1, []), (2, []), (9, []), (2, [1]), (3, [1, 2, 1]), (9, [8]), (9, [1, 2, 3, 4, 5, 6, 7, 8])]:
            self.look_at_road(n, word, list(word))
            self.assertEqual(road(n, word, word), [word])

    def test_no_word(self):
        for wrong in NO_WHOLES + [0, -1, 4, 5, THIRTY, -THIRTY]:
            refused(self, NoWord, road, 4, [wrong], [1])
            refused(self, NoWord, road, 4, [1], [wrong])
            refused(self, NoWord, road, 4, [1, wrong, 2], [1, wrong, 2])
        refused(self, NoWord, road, 1, [1], [1])
        refused(self, NoWord, road, 1, [], [1])
        refused(self, NoWord, road, 3, [1] * 201, [])
        refused(self, NoWord, road, 3, [], [1] * 201)

    def test_no_pair(self):
        for n, one, other in [
            (3, [1], [2]), (3, [], [1]), (3, [1], []), (3, [1, 1], [1, 1]), (3, [1, 1], []), (3, [], [1, 1]),
            (4, [1, 2, 1], [3]), (4, [1], [1, 2, 2]), (4, [1, 2, 2], [1]), (3, [1, 2], [2, 1]), (2, [1, 1, 1], [1]),
            (3, [1, 2, 1, 2], [2, 1]), (3, [2, 1], [1, 2, 1, 2]), (9, [8, 8], [7, 7]), (3, [1, 2, 1, 2], [1, 2, 1, 2]),
        ]:
            refused(self, NoPair, road, n, one, other)

    def test_too_many(self):
        nine = [1, 2, 3, 4, 1, 2, 3, 1, 2]
        self.assertTrue(is_reduced(5, nine))
        refused(self, TooMany, road, 5, nine, nine)
        refused(self, TooMany, road, 9, nine, [1, 2, 3, 1, 4, 2, 3, 1, 2])
        for n in [10, 11, 20]:
            refused(self, TooMany, road, n, [], [])
            refused(self, TooMany, road, n, [1], [1])
            refused(self, TooMany, road, n, [1, 3], [3, 1])
            refused(self, TooMany, road, n, nine, nine)

    def test_eight_numbers_and_nine_things_are_not_too_many(self):
        draw = random.Random(22)
        for n in [5, 8, 9]:
            one = drawn_shortest(draw, n, 8)
            self.look_at_road(n, one, drawn_again(draw, walked(n, one)))

    def test_which_refusal_comes_first(self):
        # No word, and unlike orders.
        refused(self, NoWord, road, 3, [1, 2], [3])
        refused(self, NoWord, road, 3, [3], [1, 2])
        refused(self, NoWord, road, 3, [1, 1], [True])
        # No word, and too many.
        refused(self, NoWord, road, 10, [1], [10])
        refused(self, NoWord, road, 10, [0], [1])
        refused(self, NoWord, road, 9, [1] * 200, [9])
        refused(self, NoWord, road, 9, [1] * 201, [1] * 201)
        # No pair, and too many.
        refused(self, NoPair, road, 10, [1], [2])
        refused(self, NoPair, road, 20, [1, 1], [])
        refused(self, NoPair, road, 9, [1] * 9, [1] * 9)
        refused(self, NoPair, road, 9, [1] * 9, [1])
        refused(self, NoPair, road, 9, [1], [1] * 9)
        refused(self, NoPair, road, 5, [1, 2, 3, 4, 1, 2, 3, 1, 2], [1])
        refused(self, NoPair, road, 9, [1] * 200, [1] * 200)

    def test_told_lists_are_new(self):
        asker_owns(self, road, 1, [], [])
        asker_owns(self, road, 4, [1, 2, 1], [1, 2, 1])
        asker_owns(self, road, 4, [1, 2, 1, 3], [2, 1, 2, 3])
        asker_owns(self, road, 4, [1, 2, 1, 3, 2, 1], [3, 2, 3, 1, 2, 3])
        word = [1, 3]
        asker_owns(self, road, 4, word, word)


class Fall(Walks):

    def test_all_words(self):
        for n, most in [(1, 0), (2, 8), (3, 8), (4, 6), (5, 4)]:
            for many in range(most + 1):
                for word in itertools.product(range(1, n), repeat=many):
                    self.look_at_fall(n, list(word))

    def test_drawn_words(self):
        draw = random.Random(23)
        for n in range(2, 10):
            for k in range(60):
                self.look_at_fall(n, [draw.randrange(1, n) for k in range(draw.randrange(5, 9))])
                half = drawn_shortest(draw, n, min(4, n * (n - 1) // 2))
                self.look_at_fall(n, half + half[::-1])
                again = drawn_again(draw, walked(n, half))
                self.look_at_fall(n, half + again[::-1])
                self.assertEqual(fall(n, half + again[::-1])[-1], [])

    def test_shortest_words_stay(self):
        for n, word in [(1, []), (9, []), (2, [1]), (9, [8, 7, 6, 5, 4, 3, 2, 1])]:
            self.look_at_fall(n, word)

    def test_by_hand(self):
        self.assertEqual(fall(2, [1, 1]), [[1, 1], []])
        self.assertEqual(fall(2, [1] * 8)[-1], [])
        self.assertEqual(fall(4, [1, 3, 1])[-1], [3])

    def test_no_word(self):
        for wrong in NO_WHOLES + [0, -1, 4, 5, THIRTY, -THIRTY]:
            refused(self, NoWord, fall, 4, [wrong])
            refused(self, NoWord, fall, 4, [1, 1, wrong])
        refused(self, NoWord, fall, 1, [1])
        refused(self, NoWord, fall, 4, [1] * 201)

    def test_too_many(self):
        refused(self, TooMany, fall, 2, [1] * 9)
        refused(self, TooMany, fall, 5, [1, 2, 3, 4, 1, 2, 3, 1, 2])
        refused(self, TooMany, fall, 9, [8] * 9)
        refused(self, TooMany, fall, 9, [1] * 200)
        for n in [10, 11, 20]:
            refused(self, TooMany, fall, n, [])
            refused(self, TooMany, fall, n, [1])
            refused(self, TooMany, fall, n, [1, 1])
            refused(self, TooMany, fall, n, [1] * 9)

    def test_which_refusal_comes_first(self):
        refused(self, NoWord, fall, 10, [10])
        refused(self, NoWord, fall, 20, [True])
        refused(self, NoWord, fall, 9, [1] * 8 + [9])
        refused(self, NoWord, fall, 9, [1] * 201)
        refused(self, NoWord, fall, 10, [1] * 201)

    def test_told_lists_are_new(self):
        asker_owns(self, fall, 1, [])
        asker_owns(self, fall, 4, [1, 2, 3])
        asker_owns(self, fall, 4, [1, 2, 1, 2, 3, 3])
        asker_owns(self, fall, 2, [1] * 8)


if __name__ == "__main__":
    unittest.main()
