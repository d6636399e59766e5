"""What several tests share: drawn inputs, wrong inputs, and looks at refusals."""

import copy
import itertools
import random

from undercells import errors

REFUSALS = [
    errors.NoWord, errors.NoNumber, errors.NoPair, errors.TooMany,
    errors.NoTables, errors.NoText, errors.NoRow, errors.NoName,
]

THIRTY = 10 ** 30 - 1

# Things that are no whole number at all, whatever is asked for.
NO_WHOLES = [
    True, False, None, "", "1", "12", "a", [], [1], [[1]], (), (1,), (1, 2), ((1,),), [None], "2 1", [True],
]


def nested(depth, inner):
    """A thing in as many lists and tuples by turns."""
    thing = inner
    for k in range(depth):
        thing = [thing] if k % 2 else (thing,)
    return thing


def all_orders(n):
    return list(itertools.permutations(range(1, n + 1)))


def rising(n):
    return tuple(range(1, n + 1))


def falling(n):
    return tuple(range(n, 0, -1))


def drawn_order(draw, n):
    things = list(range(1, n + 1))
    draw.shuffle(things)
    return tuple(things)


def drawn_orders(seed, many, least=1, most=20):
    """As many orders, of every number of things in turn, the same in each run."""
    draw = random.Random(seed)
    return [drawn_order(draw, least + k % (most - least + 1)) for k in range(many)]


def inversions(order):
    """The length of an order, counted apart from the program."""
    return sum(1 for a, b in itertools.combinations(order, 2) if a > b)


def swapped(order, i, j):
    """The order with the things at the places i and j (from 1 on) exchanged."""
    things = list(order)
    things[i - 1], things[j - 1] = things[j - 1], things[i - 1]
    return tuple(things)


def walked(n, word):
    """Where a word leads, reckoned apart from the program."""
    order = rising(n)
    for k in word:
        order = swapped(order, k, k + 1)
    return order


def refused(test, error, function, *handed):
    """Look that a call is refused with just this class, and changes nothing handed in."""
    before = copy.deepcopy(handed)
    try:
        told = function(*handed)
    except errors.UnderError as why:
        test.assertIs(type(why), error, (function.__name__, handed))
        test.assertIsInstance(why, ValueError)
        for other in REFUSALS:
            test.assertEqual(isinstance(why, other), other is error)
    else:
        test.fail(f"{function.__name__}{handed!r} told {told!r}, not refused")
    test.assertEqual(repr(handed), repr(before))


def spoil(told):
    """Change a told list, and the lists within it, as an asker may."""
    if isinstance(told, (list, tuple)):
        for part in told:
            spoil(part)
    if isinstance(told, list):
        told.reverse()
        told.append("spoiled")
        told.insert(0, None)


def lists_within(told):
    """All lists of a told thing, each as often as it stands there."""
    found = [told] if isinstance(told, list) else []
    if isinstance(told, (list, tuple)):
        for part in told:
            found.extend(lists_within(part))
    return found


def asker_owns(test, function, *handed):
    """Look that what is told is new, shares no list, and that handed things stay as they were."""
    before = copy.deepcopy(handed)
    first = function(*handed)
    test.assertEqual(repr(handed), repr(before))
    kept = copy.deepcopy(first)
    inner = [id(part) for part in lists_within(first)]
    test.assertEqual(len(inner), len(set(inner)), "a list stands twice in what is told")
    for part in lists_within(handed):
        test.assertNotIn(id(part), inner, "a told list is one that was handed in")
    second = function(*handed)
    spoil(first)
    test.assertEqual(repr(second), repr(kept), "two askers share a told list")
    test.assertEqual(repr(handed), repr(before), "a told list shares with what was handed in")
    test.assertEqual(repr(function(*handed)), repr(kept))
    # What is done behind the call to what was handed in changes no answer.
    for part in handed:
        spoil(part)
    test.assertEqual(repr(second), repr(kept))
    test.assertEqual(repr(function(*before)), repr(kept))


def count_from(order, i, j):
    """How many of the first i things of an order are from j on."""
    return sum(1 for thing in order[:i] if thing >= j)


def all_bars(one, other):
    """All bars of two orders, by the words of the document, sorted."""
    places = range(1, len(one) + 1)
    return [(i, j) for i in places for j in places if count_from(one, i, j) > count_from(other, i, j)]


def drawn_below(draw, order, most):
    """An order below the one, come to by setting at most so many wrong pairs right."""
    for k in range(draw.randrange(most + 1)):
        wrong = [(i, j) for j in range(2, len(order) + 1) for i in range(1, j) if order[i - 1] > order[j - 1]]
        if wrong:
            order = swapped(order, *draw.choice(wrong))
    return order


def drawn_pairs(seed, many, least=1, most=20):
    """Pairs of orders, most of them one below the other, some of them not, some of them alike."""
    draw = random.Random(seed)
    pairs = []
    for order in drawn_orders(seed, many, least, most):
        pairs.append((drawn_below(draw, order, 3), order))
        pairs.append((drawn_below(draw, order, 30), order))
        pairs.append((order, drawn_below(draw, order, 3)))
        pairs.append((order, drawn_order(draw, len(order))))
        pairs.append((drawn_below(draw, order, 4), drawn_below(draw, order, 4)))
    return pairs
