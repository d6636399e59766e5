"""What several tests share: drawn inputs, wrong inputs, and looks at refusals."""

import copy
import itertools
import math
import random

from undercells import errors

REFUSALS = [
    errors.NoWord, errors.NoNumber, errors.NoPair, errors.TooMany,
    errors.NoTables, errors.NoText, errors.NoRow, errors.NoName,
]

THIRTY = 10 ** 30 - 1

# Things that are no whole number at all, whatever is asked for.
NO_WHOLES = [
    True, False, None, "", "1", "12", "a", [], [1], [[1]], (), (1,), (1, 2), ((1,),), [None], "2 1", [True],
]


def nested(depth, inner):
    """A thing in as many lists and tuples by turns."""
    thing = inner
    for k in range(depth):
        thing = [thing] if k % 2 else (thing,)
    return thing


def all_orders(n):
    return list(itertools.permutations(range(1, n + 1)))


def rising(n):
    return tuple(range(1, n + 1))


def falling(n):
    return tuple(range(n, 0, -1))


def drawn_order(draw, n):
    things = list(range(1, n + 1))
    draw.shuffle(things)
    return tuple(things)


def drawn_orders(seed, many, least=1, most=20):
    """As many orders, of every number of things in turn, the same in each run."""
    draw = random.Random(seed)
    return [drawn_order(draw, least + k % (most - least + 1)) for k in range(many)]


def inversions(order):
    """The length of an order, counted apart from the program."""
    return sum(1 for a, b in itertools.combinations(order, 2) if a > b)


def swapped(order, i, j):
    """The order with the things at the places i and j (from 1 on) exchanged."""
    things = list(order)
    things[i - 1], things[j - 1] = things[j - 1], things[i - 1]
    return tuple(things)


def walked(n, word):
    """Where a word leads, reckoned apart from the program."""
    order = rising(n)
    for k in word:
        order = swapped(order, k, k + 1)
    return order


def back_of(order):
    """The back of an order, reckoned apart from the program."""
    return tuple(order.index(thing) + 1 for thing in range(1, len(order) + 1))


def drawn_letters(draw, many, top):
    """A row of as many letters, none above the top."""
    return [draw.randint(1, top) for k in range(many)]


def moved_by_words(row):
    """All rows that come of a row by one move, by the words of 25, sorted."""
    found = []
    for at in range(len(row) - 2):
        one, two, three = row[at:at + 3]
        news = []
        if one <= three < two or two <= three < one:
            news.append([two, one, three])
        if two < one <= three or three < one <= two:
            news.append([one, three, two])
        found.extend(row[:at] + new + row[at + 3:] for new in news)
    return [new for k, new in enumerate(sorted(found)) if new not in sorted(found)[:k]]


def refused(test, error, function, *handed):
    """Look that a call is refused with just this class, and changes nothing handed in."""
    before = copy.deepcopy(handed)
    try:
        told = function(*handed)
    except errors.UnderError as why:
        test.assertIs(type(why), error, (function.__name__, handed))
        test.assertIsInstance(why, ValueError)
        for other in REFUSALS:
            test.assertEqual(isinstance(why, other), other is error)
    else:
        test.fail(f"{function.__name__}{handed!r} told {told!r}, not refused")
    test.assertEqual(repr(handed), repr(before))


def spoil(told):
    """Change a told list, and the lists within it, as an asker may."""
    if isinstance(told, (list, tuple)):
        for part in told:
            spoil(part)
    if isinstance(told, list):
        told.reverse()
        told.append("spoiled")
        told.insert(0, None)


def lists_within(told):
    """All lists of a told thing, each as often as it stands there."""
    found = [told] if isinstance(told, list) else []
    if isinstance(told, (list, tuple)):
        for part in told:
            found.extend(lists_within(part))
    return found


def asker_owns(test, function, *handed):
    """Look that what is told is new, shares no list, and that handed things stay as they were."""
    before = copy.deepcopy(handed)
    first = function(*handed)
    test.assertEqual(repr(handed), repr(before))
    kept = copy.deepcopy(first)
    inner = [id(part) for part in lists_within(first)]
    test.assertEqual(len(inner), len(set(inner)), "a list stands twice in what is told")
    for part in lists_within(handed):
        test.assertNotIn(id(part), inner, "a told list is one that was handed in")
    second = function(*handed)
    spoil(first)
    test.assertEqual(repr(second), repr(kept), "two askers share a told list")
    test.assertEqual(repr(handed), repr(before), "a told list shares with what was handed in")
    test.assertEqual(repr(function(*handed)), repr(kept))
    # What is done behind the call to what was handed in changes no answer.
    for part in handed:
        spoil(part)
    test.assertEqual(repr(second), repr(kept))
    test.assertEqual(repr(function(*before)), repr(kept))


def count_from(order, i, j):
    """How many of the first i things of an order are from j on."""
    return sum(1 for thing in order[:i] if thing >= j)


def all_bars(one, other):
    """All bars of two orders, by the words of the document, sorted."""
    places = range(1, len(one) + 1)
    return [(i, j) for i in places for j in places if count_from(one, i, j) > count_from(other, i, j)]


def drawn_below(draw, order, most):
    """An order below the one, come to by setting at most so many wrong pairs right."""
    for k in range(draw.randrange(most + 1)):
        wrong = [(i, j) for j in range(2, len(order) + 1) for i in range(1, j) if order[i - 1] > order[j - 1]]
        if wrong:
            order = swapped(order, *draw.choice(wrong))
    return order


def drawn_pairs(seed, many, least=1, most=20):
    """Pairs of orders, most of them one below the other, some of them not, some of them alike."""
    draw = random.Random(seed)
    pairs = []
    for order in drawn_orders(seed, many, least, most):
        pairs.append((drawn_below(draw, order, 3), order))
        pairs.append((drawn_below(draw, order, 30), order))
        pairs.append((order, drawn_below(draw, order, 3)))
        pairs.append((order, drawn_order(draw, len(order))))
        pairs.append((drawn_below(draw, order, 4), drawn_below(draw, order, 4)))
    return pairs


def exchanges(order):
    """All orders that come of one by exchanging the things at two places."""
    return [swapped(order, i, j) for i, j in itertools.combinations(range(1, len(order) + 1), 2)]


def climbed(draw, order, many):
    """An order with just as many wrong pairs more that the one is below."""
    for k in range(many):
        due = inversions(order) + 1
        order = draw.choice([new for new in exchanges(order) if inversions(new) == due])
    return order


def low_order(draw, n, room):
    """An order of n things that has at least so many wrong pairs less than the falling one."""
    order = drawn_order(draw, n)
    while inversions(order) > n * (n - 1) // 2 - room:
        order = drawn_order(draw, n)
    return order


def is_under(one, other):
    """Below by the words of 8; the lengths are looked at first, for they part most pairs."""
    return inversions(one) <= inversions(other) and not all_bars(one, other)


def fall_places(order):
    """All falls of an order, rising."""
    return [k for k in range(1, len(order)) if order[k - 1] > order[k]]


def all_words(order):
    """All shortest words of an order."""
    ends = fall_places(order)
    if not ends:
        return [[]]
    return [word + [k] for k in ends for word in all_words(swapped(order, k, k + 1))]


def last_word(order):
    """A shortest word of an order, found from behind by its last falls."""
    word = []
    while fall_places(order):
        word.insert(0, fall_places(order)[-1])
        order = swapped(order, word[0], word[0] + 1)
    return word


def drawn_poly(draw, most=40, top=60, great=THIRTY, least=0):
    powers = sorted(draw.sample(range(-top, top + 1), draw.randint(least, most)))
    return [(power, draw.choice([-1, 1]) * draw.randint(1, great)) for power in powers]


def drawn_sum(draw, n, most=6, polys=(40, 60, THIRTY)):
    """A sum of orders of n things, of one tuple at least."""
    orders = all_orders(n)
    some = draw.sample(orders, draw.randint(1, min(most, len(orders))))
    return [(order, drawn_poly(draw, *polys, least=1)) for order in sorted(some)]


def small_sum(draw, n, most=6):
    """A sum with small polynomials, so that much cancels."""
    return drawn_sum(draw, n, most, (3, 2, 2))


def look_at_poly(test, told):
    """Look that a told thing has the form of a polynomial."""
    test.assertIs(type(told), list)
    for term in told:
        test.assertIs(type(term), tuple)
        test.assertEqual([type(part) for part in term], [int, int])
        test.assertNotEqual(term[1], 0)
    powers = [power for power, number in told]
    test.assertEqual(powers, sorted(set(powers)))


def look_at_sum(test, told):
    """Look that a told thing has the form of a sum."""
    test.assertIs(type(told), list)
    for part in told:
        test.assertIs(type(part), tuple)
        test.assertEqual(len(part), 2)
        order, poly = part
        test.assertIs(type(order), tuple)
        test.assertEqual(sorted(order), list(range(1, len(order) + 1)))
        look_at_poly(test, poly)
        test.assertNotEqual(poly, [])
    orders = [order for order, poly in told]
    test.assertEqual(orders, sorted(set(orders)))
    test.assertLessEqual(len({len(order) for order in orders}), 1)


# Sums reckoned apart from the program: dicts of numbers by order and power, none of them 0.

def flat(told):
    return {(order, power): number for order, poly in told for power, number in poly}


def flat_added(one, other):
    found = dict(one)
    for key, number in other.items():
        found[key] = found.get(key, 0) + number
    return {key: number for key, number in found.items() if number}


def flat_scaled(poly, one):
    found = {}
    for power, number in poly:
        found = flat_added(found, {(order, at + power): many * number for (order, at), many in one.items()})
    return found


def flat_by_exchange(one, k):
    found = {(swapped(order, k, k + 1), power): number for (order, power), number in one.items()}
    at_a_fall = {(order, power): number for (order, power), number in one.items() if order[k - 1] > order[k]}
    return flat_added(found, flat_scaled([(-1, 1), (1, -1)], at_a_fall))


def flat_product(one, other):
    """The product of a flat sum and a sum, by a shortest word of each order."""
    found = {}
    for order, poly in other:
        part = one
        for k in last_word(order):
            part = flat_by_exchange(part, k)
        found = flat_added(found, flat_scaled(poly, part))
    return found


def alone(order):
    """The sum of an order before which 1 stands."""
    return [(order, [(0, 1)])]


def in_v(poly):
    """A polynomial in z with v, less the back of v, put for z."""
    found = {}
    for power, number in poly:
        for k in range(power + 1):
            at = 2 * k - power
            found[at] = found.get(at, 0) + number * math.comb(power, k) * (-1) ** (power - k)
    return sorted((at, number) for at, number in found.items() if number)


def reckoned_rest(one, other, draw, known):
    """The rest of one in other by the words of 16, by a drawn fall at each step."""
    if (one, other) not in known:
        if one == other:
            known[one, other] = {0: 1}
        elif not is_under(one, other):
            known[one, other] = {}
        else:
            k = draw.choice(fall_places(other))
            less = swapped(other, k, k + 1)
            found = dict(reckoned_rest(swapped(one, k, k + 1), less, draw, known))
            if k not in fall_places(one):
                for power, number in reckoned_rest(one, less, draw, known).items():
                    found[power + 1] = found.get(power + 1, 0) + number
            known[one, other] = found
    return known[one, other]


def reckoned_leads(n):
    """The leads other than 0 by pairs (lower, upper), by the rests, apart from the kept sums of the program."""
    draw = random.Random(181)
    rests = {}
    leads = {}
    for upper in all_orders(n):
        polys = {upper: {0: 1}}
        under = [order for order in all_orders(n) if is_under(order, upper) and order != upper]
        for lower in sorted(under, key=inversions, reverse=True):
            total = {}
            for middle, poly in polys.items():
                rest = in_v(sorted(reckoned_rest(lower, middle, draw, rests).items()))
                for (power, number), (high, many) in itertools.product(poly.items(), rest):
                    total[high - power] = total.get(high - power, 0) + number * many
            polys[lower] = {power: number for power, number in total.items() if power > 0 and number}
            if polys[lower].get(1, 0):
                leads[lower, upper] = polys[lower][1]
    return leads


def beyond_pairs(n, most):
    """Pairs of orders of n things with too many wrong pairs more, below one another and not."""
    draw = random.Random(n)
    pairs = [(rising(n), falling(n)), (swapped(rising(n), 1, 2), (1,) + falling(n)[:-1])]
    for many in [most + 1, most + 2, most + 5]:
        for k in range(3):
            one = low_order(draw, n, many)
            pairs.append((one, climbed(draw, one, many)))
            # Not below: the first thing of the one is greater than that of the other.
            most_there = (n - 1) * (n - 2) // 2
            rest = climbed(draw, rising(n - 1), min(many + 1, most_there))
            pairs.append((swapped(rising(n), 1, 2), (1,) + tuple(thing + 1 for thing in rest)))
    return pairs


def look_at_bounds(test, function, most):
    """Look at the refusals of what is told of five things, and of eight with at most so many wrong pairs more."""
    for n in [6, 7, 8]:
        for one, other in beyond_pairs(n, most):
            refused(test, errors.TooMany, function, one, other)
    for n in range(9, 21):
        step = swapped(rising(n), 1, 2)
        for one, other in [
            (rising(n), rising(n)), (falling(n), falling(n)), (rising(n), falling(n)), (falling(n), rising(n)),
            (rising(n), step), (step, swapped(rising(n), 2, 3)),
        ]:
            refused(test, errors.TooMany, function, one, other)
    for n, m in itertools.permutations(range(1, 21), 2):
        refused(test, errors.NoPair, function, rising(n), falling(m))
        refused(test, errors.NoPair, function, falling(n), falling(m))
