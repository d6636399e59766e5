"""Points 2 and 29: the checker of papers."""

import copy
import itertools
import random
import unittest

from tests.support import (
    NO_WHOLES, THIRTY, all_bars, all_orders, alone, count_from, drawn_below, drawn_letters, drawn_order, drawn_pairs,
    fall_places, falling, inversions, moved_by_words, nested, rising, swapped, walked,
)
from undercells.chains import chain, kept_places
from undercells.checker import holds
from undercells.kept import kept_sum
from undercells.moves import road_of_moves
from undercells.plains import first_four
from undercells.roads import fall, road
from undercells.sums import added, scaled
from undercells.turning import turning
from undercells.words import first_word

KINDS = ["below", "chain", "bar", "road", "four", "moves", "kept"]

# Things of every kind, none of which is a part of the papers they are put into.
OTHERS = [thing for thing in NO_WHOLES if thing != [[1]]] + [
    0, -1, 21, THIRTY, -THIRTY, "below", [()], ((),), ([],), (0, 0), [(0, 1)], [1, 2, 3, 4],
]


def some_things(draw, depth):
    """Any thing, drawn, at most so deep."""
    kind = draw.randrange(8)
    if depth == 0 or kind < 3:
        return draw.choice([0, 1, 2, 3, -1, 20, True, False, None, "", "a", THIRTY] + KINDS)
    parts = [some_things(draw, depth - 1) for k in range(draw.randrange(4))]
    return parts if kind < 5 else tuple(parts)


def deeds(word):
    """All words that come of one by one of the three deeds, by the words of 7."""
    found = []
    for at in range(len(word) - 1):
        one, two = word[at:at + 2]
        if abs(one - two) >= 2:
            found.append(word[:at] + [two, one] + word[at + 2:])
        if one == two:
            found.append(word[:at] + word[at + 2:])
        if abs(one - two) == 1 and at + 2 < len(word) and word[at + 2] == one:
            found.append(word[:at] + [two, one, two] + word[at + 3:])
    return found


def drawn_road(draw, n, many, steps):
    """A list of words, each coming of the one ahead by a deed."""
    words = [[draw.randrange(1, n) for k in range(many)]]
    for k in range(steps):
        if deeds(words[-1]):
            words.append(draw.choice(deeds(words[-1])))
    return words


class Papers(unittest.TestCase):

    def look_at(self, paper, due):
        before = copy.deepcopy(paper)
        told = holds(paper)
        self.assertIs(told, due, paper)
        self.assertEqual(repr(paper), repr(before))
        return told

    def look_at_parts(self, paper):
        """Look that a good paper does not hold with a part of another kind, left out, doubled or put in."""
        self.look_at(paper, True)
        for at in range(1, len(paper)):
            for other in OTHERS:
                if other != paper[at] or type(other) is not type(paper[at]):
                    self.look_at(paper[:at] + (other,) + paper[at + 1:], False)
            self.look_at(paper[:at] + paper[at + 1:], False)
            self.look_at(paper[:at] + (paper[at],) + paper[at:], False)
            self.look_at(paper[:at] + (as_other_sequence(paper[at]),) + paper[at + 1:], False)
        self.look_at(paper + (None,), False)
        self.look_at(paper + ([],), False)
        self.look_at(paper[:1], False)
        self.look_at(list(paper), False)
        self.look_at((paper,), False)
        self.look_at(paper[1:], False)
        for word in KINDS + ["", "Below", "belows", " below", "chains", "paper", None, 1, True, ("below",), ["chain"]]:
            if word != paper[0]:
                self.look_at((word,) + paper[1:], False)


def as_other_sequence(part):
    """A list for a tuple, a tuple for a list; of a whole number a truth."""
    if isinstance(part, tuple):
        return list(part)
    return tuple(part) if isinstance(part, list) else True


class AnyThing(Papers):

    def test_no_papers(self):
        for thing in OTHERS + KINDS + [(kind,) for kind in KINDS] + [[kind] for kind in KINDS]:
            self.look_at(thing, False)
        for kind in KINDS:
            for many in range(1, 6):
                for other in OTHERS:
                    self.look_at((kind,) + (other,) * many, False)

    def test_deep_things(self):
        for depth in range(9):
            for inner in [0, "below", None, True, [], (), ("chain", [(1,)])]:
                thing = nested(depth, inner)
                self.look_at(thing, thing == ("chain", [(1,)]))
                for kind, many in itertools.product(KINDS, range(4)):
                    self.look_at((kind,) + (thing,) * many, False)

    def test_drawn_things(self):
        draw = random.Random(191)
        for k in range(4000):
            self.assertIn(holds(some_things(draw, draw.randrange(9))), [True, False])
        for k in range(4000):
            paper = (draw.choice(KINDS),) + tuple(some_things(draw, 7) for part in range(draw.randrange(1, 4)))
            self.assertIs(type(holds(paper)), bool)

    def test_great_things(self):
        for thing in [
            tuple(range(1990)), ["a"] * 1990, ("chain", [()] * 1900), ("chain", [(1,)] * 900), ("road", 3, [[]] * 1900),
            ("moves", [[]] * 1900), ("road", 20, [[1] * 1900]), ("moves", [[1] * 1900]), ("four", tuple(range(1900)), ()),
            ("kept", (1,), [((1,), [(k, 1) for k in range(400)])]), ("below", rising(20), falling(20), list(range(1900))),
            ("kept", (2, 1), [((2, 1), [(0, 1)])] * 200), ("kept", (1,), [()] * 1900), ("bar", (1,), (1,), (1,) * 1900),
        ]:
            self.look_at(thing, False)
        self.look_at(("moves", [[1] * 40]), True)
        self.look_at(("road", 20, [[1] * 200]), True)


class Below(Papers):

    def test_parts(self):
        for one, other in [((1, 3, 2), (2, 3, 1)), ((2, 1, 3, 4), (4, 2, 3, 1)), (falling(5), falling(5))]:
            self.look_at_parts(("below", one, other, kept_places(one, other)))

    def test_as_told(self):
        for one, other in drawn_pairs(192, 40):
            places = kept_places(one, other)
            if places is not None:
                self.look_at(("below", one, other, places), True)
            else:
                self.look_at(("below", one, other, None), False)

    def test_every_list_of_places(self):
        for one, other in itertools.product(all_orders(3), repeat=2):
            word = first_word(other)
            for many in range(len(word) + 1):
                for places in itertools.combinations(range(len(word)), many):
                    left = [word[place] for place in places]
                    due = walked(3, left) == one and many == inversions(one)
                    self.look_at(("below", one, other, list(places)), due)

    def test_a_word_that_is_not_shortest(self):
        self.assertEqual(first_word(falling(3)), [1, 2, 1])
        self.look_at(("below", rising(3), falling(3), []), True)
        self.look_at(("below", rising(3), falling(3), [0, 2]), False)
        self.look_at(("below", (2, 1, 3), falling(3), [0]), True)
        self.look_at(("below", (2, 1, 3), falling(3), [2]), True)
        self.look_at(("below", (1, 3, 2), falling(3), [0]), False)

    def test_places(self):
        one, other = (2, 3, 1), (3, 2, 1)
        self.look_at(("below", one, other, [0, 1]), True)
        for places in [
            [1, 0], [0, 0, 1], [0, 1, 1], [0], [1], [], [0, 1, 2], [1, 2], [-3, 1], [0, -2], [0, 3], [0, 1, 3],
            [False, True], [0, True], [False, 1], ["0", 1], [0, None], [[0], 1], [(0,), 1], [0, THIRTY], [-THIRTY, 1],
            (0, 1), None, 0, "01",
        ]:
            self.look_at(("below", one, other, places), False)

    def test_places_from_behind(self):
        self.look_at(("below", (2, 1), (2, 1), [0]), True)
        self.look_at(("below", (2, 1), (2, 1), [-1]), False)
        self.look_at(("below", (1, 2), (2, 1), []), True)
        self.look_at(("below", (1,), (1,), []), True)
        self.look_at(("below", (1,), (1,), [0]), False)

    def test_orders(self):
        for wrong in [(1, 3), (0, 1), (1, 1), (True, 2), (2, True), (), [1, 2], "12", None, (1, 2, 3), (1,), 12]:
            self.look_at(("below", wrong, (1, 2), []), False)
            self.look_at(("below", (1, 2), wrong, []), False)
        self.look_at(("below", rising(21), rising(21), []), False)
        self.look_at(("below", rising(20), falling(20), []), True)
        self.look_at(("below", falling(20), falling(20), list(range(190))), True)
        self.look_at(("below", falling(20), falling(20), list(range(189))), False)


class Chains(Papers):

    def test_parts(self):
        for one, other in [((1, 2, 3), (3, 2, 1)), ((2, 1, 3, 4), (4, 2, 3, 1)), ((2, 1), (2, 1))]:
            self.look_at_parts(("chain", chain(one, other)))

    def test_as_told(self):
        for one, other in drawn_pairs(193, 30):
            orders = chain(one, other)
            self.look_at(("chain", orders), orders is not None)

    def test_changed(self):
        draw = random.Random(194)
        for one, other in drawn_pairs(195, 15, 4, 9):
            orders = chain(one, other)
            if orders is None or len(orders) < 3:
                continue
            at = draw.randrange(1, len(orders) - 1)
            self.look_at(("chain", orders[:at] + orders[at + 1:]), False)
            self.look_at(("chain", orders[:at] + [orders[at]] + orders[at:]), False)
            self.look_at(("chain", orders[::-1]), False)
            self.look_at(("chain", orders[at:]), True)
            self.look_at(("chain", orders[:at]), True)
            for wrong in [list(orders[at]), None, orders[at] + (len(one) + 1,), orders[at][:-1], (), "1", 1]:
                self.look_at(("chain", orders[:at] + [wrong] + orders[at + 1:]), False)
                self.look_at(("chain", orders + [wrong]), False)
                self.look_at(("chain", [wrong] + orders), False)

    def test_every_two_orders(self):
        for n in [1, 2, 3, 4]:
            for one, other in itertools.product(all_orders(n), repeat=2):
                unlike = [at for at in range(n) if one[at] != other[at]]
                due = len(unlike) == 2 and inversions(other) == inversions(one) + 1
                self.look_at(("chain", [one, other]), due)

    def test_more_wrong_pairs_by_more_than_one_exchange(self):
        # One wrong pair more, but more than two things have changed their places.
        self.assertEqual(inversions((2, 3, 1)), inversions((1, 3, 2)) + 1)
        self.look_at(("chain", [(1, 3, 2), (2, 3, 1)]), True)
        self.look_at(("chain", [(2, 1, 3, 4), (1, 3, 4, 2)]), False)
        self.look_at(("chain", [(1, 2, 3), (3, 2, 1)]), False)

    def test_orders(self):
        self.look_at(("chain", []), False)
        self.look_at(("chain", [(1,)]), True)
        self.look_at(("chain", [falling(20)]), True)
        self.look_at(("chain", [falling(21)]), False)
        self.look_at(("chain", [(True,)]), False)
        self.look_at(("chain", [(1, 2), (2, True)]), False)
        self.look_at(("chain", [(1, 2), (2, 1, 3)]), False)
        self.look_at(("chain", ((1, 2), (2, 1))), False)
        self.look_at(("chain", chain(rising(20), falling(20))), True)


class Bars(Papers):

    def test_parts(self):
        for one, other in [((2, 1, 3), (1, 3, 2)), ((3, 4, 1, 2), (4, 2, 3, 1)), ((2, 1), (1, 2))]:
            self.look_at_parts(("bar", one, other, all_bars(one, other)[0]))

    def test_every_tuple(self):
        pairs = list(itertools.product(all_orders(3), repeat=2)) + drawn_pairs(196, 6, 4, 8)
        pairs += [(falling(20), rising(20)), (drawn_order(random.Random(197), 20), rising(20))]
        for one, other in pairs:
            n = len(one)
            for i, j in itertools.product(range(1, n + 1), repeat=2):
                self.look_at(("bar", one, other, (i, j)), count_from(one, i, j) > count_from(other, i, j))

    def test_beyond_the_places(self):
        for one, other in [((3, 2, 1), (1, 2, 3)), ((2, 1), (1, 2)), ((1, 2), (2, 1))]:
            n = len(one)
            for i, j in itertools.product([-THIRTY, -3, -2, -1, 0, 1, 2, n, n + 1, n + 2, THIRTY], repeat=2):
                due = 1 <= i <= n and 1 <= j <= n and count_from(one, i, j) > count_from(other, i, j)
                self.look_at(("bar", one, other, (i, j)), due)

    def test_tuples(self):
        one, other = (2, 1, 3), (1, 3, 2)
        self.look_at(("bar", one, other, (1, 2)), True)
        for wrong in [
            (True, 2), (1, True), (1,), (1, 2, 3), (1, 2, 2), [1, 2], (), ("1", 2), (1, None), ((1,), 2), ([1], 2), "12",
            None, 12,
        ]:
            self.look_at(("bar", one, other, wrong), False)

    def test_orders(self):
        for wrong in [(1, 3), (0, 1), (1, 1), (True, 2), (2, True), (), [2, 1], "21", None, (2, 1, 3), (1,), 21]:
            self.look_at(("bar", wrong, (1, 2), (1, 2)), False)
            self.look_at(("bar", (2, 1), wrong, (1, 2)), False)
        self.look_at(("bar", falling(21), rising(21), (1, 2)), False)


class Roads(Papers):

    def test_parts(self):
        for paper in [
            ("road", 4, fall(4, [1, 3, 1])), ("road", 20, [[1, 2, 1], [2, 1, 2]]), ("road", 3, [[1, 1], []]),
            ("road", 9, road(9, [1, 2, 1, 8], [8, 2, 1, 2])),
        ]:
            self.look_at_parts(paper)

    def test_as_told(self):
        draw = random.Random(198)
        for k in range(60):
            n = 2 + k % 8
            word = [draw.randrange(1, n) for many in range(k % 9)]
            self.look_at(("road", n, fall(n, word)), True)
            one = first_word(drawn_below(draw, drawn_order(draw, n), 9))
            if len(one) <= 8:
                self.look_at(("road", n, road(n, one, fall(n, one)[-1])), True)

    def test_drawn(self):
        draw = random.Random(199)
        for k in range(150):
            n = 2 + k % 19
            words = drawn_road(draw, n, draw.choice([0, 1, 2, 5, 20]), 8)
            self.look_at(("road", n, words), True)
            at = draw.randrange(len(words))
            for new in [words[:at] + words[at + 1:], words[::-1], words[:at] + [words[at]] + words[at:]]:
                due = bool(new) and all(word in deeds(ahead) for ahead, word in zip(new, new[1:]))
                self.look_at(("road", n, new), due)
            self.look_at(("road", max(max(word, default=0) for word in words), words), False)

    def test_every_two_short_words(self):
        words = [list(word) for many in range(4) for word in itertools.product([1, 2, 3], repeat=many)]
        for one, other in itertools.product(words, repeat=2):
            self.look_at(("road", 4, [one, other]), other in deeds(one))

    def test_the_three_deeds(self):
        self.look_at(("road", 4, [[1, 3], [3, 1]]), True)
        self.look_at(("road", 4, [[3, 1], [1, 3]]), True)
        self.look_at(("road", 4, [[1, 2, 1], [2, 1, 2]]), True)
        self.look_at(("road", 4, [[2, 1, 2], [1, 2, 1]]), True)
        self.look_at(("road", 4, [[3, 2, 2, 1], [3, 1]]), True)
        self.look_at(("road", 4, [[2, 2, 2], [2]]), True)
        for words in [
            [[1, 2], [2, 1]], [[1, 1], [1, 1]], [[3, 1], [3, 2, 2, 1]], [[], [1, 1]], [[1, 3, 1], [3, 1, 3]], [[1], []],
            [[1, 2, 3], [3, 2, 1]], [[1, 1, 1, 1], []], [[1, 3, 1, 3], [3, 1, 3, 1]], [[1, 2], []], [[1], [1]],
        ]:
            self.look_at(("road", 4, words), False)

    def test_things_and_words(self):
        for n in range(1, 21):
            self.look_at(("road", n, [[]]), True)
            self.look_at(("road", n, [[n]]), False)
            self.look_at(("road", n, [[0]]), False)
            self.look_at(("road", n, [[n - 1]]), n > 1)
            self.look_at(("road", n, []), False)
        for n in [0, -1, 21, THIRTY, True, False, None, "3", [3], (3,)]:
            self.look_at(("road", n, [[]]), False)
            self.look_at(("road", n, [[1]]), False)
        for wrong in [[True], [1, True], [None], ["1"], [[1]], [(1,)], (1,), (), None, 1, "1", [-1], [THIRTY], [1] * 201]:
            self.look_at(("road", 4, [wrong]), False)
            self.look_at(("road", 4, [wrong, [1]]), False)
            self.look_at(("road", 4, [[1, 3], wrong]), False)
        self.look_at(("road", 20, [[19, 1] * 100, [1, 19] + [19, 1] * 99]), True)
        self.look_at(("road", 20, [[19] * 200, [19] * 198]), True)
        self.look_at(("road", 20, [[19] * 201, [19] * 199]), False)


class Fours(Papers):

    def test_parts(self):
        for order in [(3, 4, 1, 2), (4, 2, 3, 1), (5, 1, 3, 4, 2)]:
            self.look_at_parts(("four", order, first_four(order)))

    def test_every_four(self):
        orders = all_orders(4) + all_orders(5)[::5] + [drawn_order(random.Random(k), 9) for k in range(4)]
        for order in orders:
            for places in itertools.combinations(range(1, len(order) + 1), 4):
                things = [order[place - 1] for place in places]
                form = tuple(sorted(things).index(thing) + 1 for thing in things)
                self.look_at(("four", order, places), form in [(3, 4, 1, 2), (4, 2, 3, 1)])

    def test_places(self):
        for order in [(3, 4, 1, 2), (4, 2, 3, 1)]:
            for places in itertools.permutations(range(1, 5)):
                self.look_at(("four", order, places), places == (1, 2, 3, 4))
            for wrong in [
                (0, 1, 2, 3), (0, 2, 3, 4), (1, 2, 3, 5), (2, 3, 4, 5), (1, 2, 3), (1, 2, 3, 4, 5), (1, 2, 2, 4), (),
                [1, 2, 3, 4], (True, 2, 3, 4), (1, 2, 3, None), (1, 2, 3, "4"), (1, 2, (3,), 4), (1, 2, 3, THIRTY),
                (-3, 2, 3, 4), (-4, -3, -2, -1), (-THIRTY, 2, 3, 4), None, 1234, "1234",
            ]:
                self.look_at(("four", order, wrong), False)

    def test_orders(self):
        for wrong in [(3, 4, 1), (3, 4, True, 2), [3, 4, 1, 2], (4, 5, 1, 2), (3, 4, 0, 2), (), None, "3412", 3412]:
            self.look_at(("four", wrong, (1, 2, 3, 4)), False)
        # Places told from behind are none, though the things there would stand so.
        self.look_at(("four", (4, 1, 2, 5, 3), (0, 1, 2, 3)), False)
        self.look_at(("four", (4, 1, 2, 3), (-1, 1, 2, 3)), False)
        self.look_at(("four", rising(16) + (19, 20, 17, 18), (17, 18, 19, 20)), True)
        self.look_at(("four", rising(17) + (20, 21, 18, 19), (18, 19, 20, 21)), False)


class Moves(Papers):

    def test_parts(self):
        for row in [[1, 3, 2], [2, 3, 1, 1], [5]]:
            self.look_at_parts(("moves", road_of_moves(row)))

    def test_as_told(self):
        draw = random.Random(201)
        for k in range(120):
            rows = road_of_moves(drawn_letters(draw, k % 13, [2, 4, 12, 10 ** 9][k % 4]))
            self.look_at(("moves", rows), True)
            self.look_at(("moves", rows[::-1]), True)
            at = draw.randrange(len(rows))
            for new in [rows[:at] + rows[at + 1:], rows[:at] + [rows[at]] + rows[at:]]:
                due = bool(new) and all(row in moved_by_words(ahead) for ahead, row in zip(new, new[1:]))
                self.look_at(("moves", new), due)

    def test_every_two_short_rows(self):
        rows = [list(row) for many in range(4) for row in itertools.product([1, 2, 3], repeat=many)]
        for one, other in itertools.product(rows, repeat=2):
            self.look_at(("moves", [one, other]), other in moved_by_words(one))

    def test_rows(self):
        great = 10 ** 9
        self.look_at(("moves", []), False)
        self.look_at(("moves", [[]]), True)
        self.look_at(("moves", [[], []]), False)
        self.look_at(("moves", [[great]]), True)
        self.look_at(("moves", [[1, great, 2], [great, 1, 2]]), True)
        for wrong in [
            [0], [great + 1], [-1], [THIRTY], [True], [1, 2, True], [None], ["1"], [[1]], [(1,)], (1, 2, 3), (), None, 1,
            "132", [1] * 41,
        ]:
            self.look_at(("moves", [wrong]), False)
            self.look_at(("moves", [[1, 3, 2], wrong]), False)
            self.look_at(("moves", [wrong, [1, 3, 2]]), False)
        self.look_at(("moves", [[True, 3, 2], [3, True, 2]]), False)
        self.look_at(("moves", [[1, 3, 2], [3, True, 2]]), False)
        self.look_at(("moves", ([1, 3, 2], [3, 1, 2])), False)
        self.look_at(("moves", [[1, 3, 2] + [4] * 37, [3, 1, 2] + [4] * 37]), True)
        self.look_at(("moves", [[1, 3, 2] + [4] * 38, [3, 1, 2] + [4] * 38]), False)


class Kept(Papers):

    def test_parts(self):
        for order in [(2, 1), (2, 3, 1), (3, 4, 1, 2)]:
            self.look_at_parts(("kept", order, kept_sum(order)))

    def test_as_told(self):
        for n in range(1, 5):
            for order in all_orders(n):
                self.look_at(("kept", order, kept_sum(order)), True)
        for order in all_orders(5)[::9] + [(4, 5, 3, 1, 2), (5, 2, 3, 4, 1)]:
            self.look_at(("kept", order, kept_sum(order)), True)

    def test_a_kept_sum_of_120_tuples(self):
        told = kept_sum(falling(5))
        self.assertEqual(len(told), 120)
        self.look_at(("kept", falling(5), told), True)
        for at in [0, 60, 119]:
            self.look_at(("kept", falling(5), told[:at] + told[at + 1:]), False)
        self.look_at(("kept", falling(5), told[:59] + [(told[59][0], [(20, 1)])] + told[60:]), False)

    def test_kept_sums_of_other_orders(self):
        for n in range(1, 5):
            for one, other in itertools.product(all_orders(n), repeat=2):
                self.look_at(("kept", one, kept_sum(other)), one == other)
        self.look_at(("kept", (1,), kept_sum((1, 2))), False)
        self.look_at(("kept", (1, 2), kept_sum((1,))), False)

    def test_a_number_or_a_power_changed(self):
        for order in [(2, 1), (3, 2, 1), (3, 4, 1, 2), (4, 2, 3, 1)]:
            told = kept_sum(order)
            for at, (lower, poly) in enumerate(told):
                for place, (power, number) in enumerate(poly):
                    for term in [
                        (power, number + 1), (power, -number), (power + 1, number), (power - 1, number), (power, 0),
                        (-power, number + 1), (power + 2, number), (power, THIRTY), (THIRTY, number), (power, True),
                        (True, number), (power,), (power, number, 0), [power, number], None, (None, 1), (str(power), 1),
                    ]:
                        new = poly[:place] + [term] + poly[place + 1:]
                        self.look_at(("kept", order, told[:at] + [(lower, new)] + told[at + 1:]), False)

    def test_a_tuple_changed(self):
        for order in [(2, 1), (2, 3, 1), (3, 4, 1, 2)]:
            told = kept_sum(order)
            for at, (lower, poly) in enumerate(told):
                for part in [
                    (lower,), (lower, poly, poly), [lower, poly], (lower, []), (lower, tuple(poly)), (poly, lower), None,
                    (list(lower), poly), (lower[::-1], poly), (lower + (len(order) + 1,), poly), (lower, poly * 2),
                    (lower, None), (None, poly), (lower, poly + [(40, 0)]), (lower, [(0, 0)] + poly), (), 1, "a",
                ]:
                    self.look_at(("kept", order, told[:at] + [part] + told[at + 1:]), False)
                self.look_at(("kept", order, told[:at] + told[at + 1:]), False)
                self.look_at(("kept", order, told[:at] + [told[at]] + told[at:]), False)
            self.look_at(("kept", order, told[::-1]), False)
            self.look_at(("kept", order, tuple(told)), False)
            self.look_at(("kept", order, []), False)

    def test_other_sums_that_the_turning_keeps(self):
        low, high = (1, 3, 2, 4), (3, 4, 1, 2)
        for poly in [[(0, 1)], [(0, -1)], [(-1, 1), (1, 1)], [(0, 2)]]:
            both = added(kept_sum(high), scaled(poly, kept_sum(low)))
            self.assertEqual(turning(both), both)
            self.look_at(("kept", high, both), False)
        for poly in [[(0, 2)], [(0, -1)], [(-1, 1), (1, 1)]]:
            self.look_at(("kept", high, scaled(poly, kept_sum(high))), False)
        both = added(kept_sum((2, 1, 3)), kept_sum((1, 3, 2)))
        self.assertEqual(turning(both), both)
        self.look_at(("kept", (2, 1, 3), both), False)

    def test_small_sums_that_the_turning_does_not_keep(self):
        for order in [(2, 1), (3, 2, 1), (3, 4, 1, 2)]:
            self.look_at(("kept", order, alone(order)), False)
            n = len(order)
            self.look_at(("kept", rising(n), alone(rising(n))), True)
            self.look_at(("kept", order, sorted(alone(order) + [(rising(n), [(1, 1)])])), order == (2, 1))

    def test_orders(self):
        for wrong in [(1, 3), (True,), (0,), [1], (), None, "1", 1, (1, 1)]:
            self.look_at(("kept", wrong, alone((1,))), False)
            self.look_at(("kept", wrong, alone(wrong)), False)
        for n in range(1, 21):
            self.look_at(("kept", rising(n), alone(rising(n))), n <= 5)
        six = swapped(rising(6), 1, 2)
        self.look_at(("kept", six, [(rising(6), [(1, 1)]), (six, [(0, 1)])]), False)
        self.assertEqual(fall_places(six), [1])


if __name__ == "__main__":
    unittest.main()
