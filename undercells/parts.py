"""The polynomial of an order in another one, by dividing."""

from undercells.bounds import need_bounds
from undercells.chains import between
from undercells.orders import length, need_pair
from undercells.polys import plus, times, turned
from undercells.rests import found_rest, put_for_z

FREE_THINGS = 5
MOST_THINGS = 8
MOST_PAIRS = 4


def polynomial(one, other):
    """The polynomial of one in other, [] where one is not below other."""
    need_pair(one, other)
    need_bounds(one, other, FREE_THINGS, MOST_THINGS, MOST_PAIRS)
    found = {}
    rests = {}
    # Each order needs the polynomials of those above it only, so the longest ones come first.
    for order in sorted(between(one, other), key=length, reverse=True):
        found[order] = [(0, 1)] if order == other else upper_part(difference(order, found, rests))
    return found.get(one, [])


def difference(order, found, rests):
    """The polynomial of an order less itself turned, by the found ones of the orders above it."""
    told = []
    for above, poly in found.items():
        told = plus(told, times(turned(poly), put_for_z(found_rest(order, above, rests))))
    return told


def upper_part(poly):
    """The tuples of a polynomial with powers from 1 on."""
    # A polynomial with powers from 1 on and the same one turned have no power in common.
    return [(power, number) for power, number in poly if power > 0]
