"""The rest of an order in another one: what the turning leaves."""

from undercells.below import is_below
from undercells.bounds import need_bounds
from undercells.orders import exchanged, falls, need_pair
from undercells.polys import LESS_BACK, plus, times

FREE_THINGS = 5
MOST_THINGS = 8
MOST_PAIRS = 6


def need_rest(one, other):
    """Refuse two orders of which the rest is not told."""
    need_pair(one, other)
    need_bounds(one, other, FREE_THINGS, MOST_THINGS, MOST_PAIRS)


def rest(one, other):
    """The rest of one in other: a polynomial in z."""
    need_rest(one, other)
    return found_rest(one, other, {})


def found_rest(one, other, known):
    """The rest of one in other; known keeps each rest that was found on the way."""
    pair = (one, other)
    if pair not in known:
        if one == other:
            known[pair] = [(0, 1)]
        elif not is_below(one, other):
            known[pair] = []
        else:
            known[pair] = rest_by_fall(one, other, known)
    return known[pair]


def rest_by_fall(one, other, known):
    """The rest of one in an unlike other that it is below, by the first fall of other."""
    k = falls(other)[0]
    less = exchanged(other, k)
    told = found_rest(exchanged(one, k), less, known)
    if k in falls(one):
        return told
    return plus(told, times([(1, 1)], found_rest(one, less, known)))


def put_for_z(poly):
    """The polynomial in v that comes of one in z where v, less the back of v, is put for z."""
    told = []
    reached = 0
    at_power = [(0, 1)]
    for power, number in poly:
        while reached < power:
            at_power = times(at_power, list(LESS_BACK))
            reached += 1
        told = plus(told, times([(0, number)], at_power))
    return told
