"""Kept sums: for each order the one sum that the turning keeps and that is small below."""

from undercells.errors import TooMany
from undercells.orders import exchanged, falls, need_pair
from undercells.sums import added, by_exchange, scaled

MOST_THINGS = 5


def need_few(order):
    """Refuse an order of more things than kept sums are found for."""
    if len(order) > MOST_THINGS:
        raise TooMany(f"no kept sums of {len(order)} things")


def number_at_one(poly):
    """The number of a polynomial at the power 1, 0 where there is none."""
    return dict(poly).get(1, 0)


def found_kept(order, known):
    """The kept sum of an order; known keeps each that was found on the way."""
    if order not in known:
        ends = falls(order)
        if ends:
            known[order] = kept_by_fall(order, ends[0], known)
        else:
            known[order] = [(order, [(0, 1)])]
    return known[order]


def kept_by_fall(order, k, known):
    """The kept sum of an order with the fall k, by that of the order exchanged at k."""
    less = found_kept(exchanged(order, k), known)
    # The kept sum of the plain order exchanged at k is that order and v times the plain one.
    told = added(by_exchange(less, k), scaled([(1, 1)], less))
    for lower, poly in less:
        number = number_at_one(poly)
        if number != 0 and k in falls(lower):
            told = added(told, scaled([(0, -number)], found_kept(lower, known)))
    return told


def kept_sum(order):
    """The kept sum of an order."""
    need_few(order)
    return found_kept(order, {})


def lead(one, other):
    """The number at the power 1 of what stands before one in the kept sum of other."""
    need_pair(one, other)
    need_few(other)
    return number_at_one(dict(found_kept(other, {})).get(one, []))


def leads_among(orders):
    """By pairs of orders, either way round, the lead of the lower one in the upper one where it is other than 0."""
    known = {}
    told = {}
    for upper in orders:
        for lower, poly in found_kept(upper, known):
            number = number_at_one(poly)
            if number != 0:
                told[(lower, upper)] = number
                told[(upper, lower)] = number
    return told
