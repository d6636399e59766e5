"""Sums: lists of tuples (order, polynomial), orders rising, no polynomial []."""

from undercells.orders import back, exchanged, falls, need_pair
from undercells.polys import plus, times

# What stands before an order itself where it is multiplied by an exchange that is a fall of it.
AT_A_FALL = [(-1, 1), (1, -1)]


def put_before(found, order, poly):
    """Add a polynomial to that which stands before an order in a dict."""
    found[order] = plus(found.get(order, []), poly)


def as_sum(found):
    """The sum of a dict of polynomials by orders, of which some may be []."""
    return [(order, found[order]) for order in sorted(found) if found[order]]


def need_like(one, other):
    """Refuse two sums of unlike numbers of things; a sum without tuples goes with every sum."""
    if one and other:
        need_pair(one[0][0], other[0][0])


def added(one, other):
    """The sum of two sums."""
    need_like(one, other)
    found = {}
    for order, poly in one + other:
        put_before(found, order, poly)
    return as_sum(found)


def scaled(poly, one):
    """A polynomial times a sum."""
    found = {}
    for order, many in one:
        put_before(found, order, times(poly, many))
    return as_sum(found)


def by_exchange(one, k):
    """A sum multiplied by the exchange k."""
    found = {}
    for order, poly in one:
        put_before(found, exchanged(order, k), poly)
        if k in falls(order):
            put_before(found, order, times(list(AT_A_FALL), poly))
    return as_sum(found)


def by_order(one, order, known):
    """A sum multiplied by an order; known keeps each product with one for this one call."""
    if order not in known:
        ends = falls(order)
        if ends:
            ahead = by_order(one, exchanged(order, ends[0]), known)
            known[order] = by_exchange(ahead, ends[0])
        else:
            known[order] = one
    return known[order]


def by_orders(one, other):
    """A sum multiplied by each order of another one, times what stands before it, all added."""
    found = {}
    known = {}
    for order, poly in other:
        for at, many in by_order(one, order, known):
            put_before(found, at, times(poly, many))
    return as_sum(found)


def with_backs(one):
    """The sum with the back of each order in its place."""
    return sorted([(back(order), poly) for order, poly in one])


def product(one, other):
    """The product of two sums."""
    need_like(one, other)
    if len(one) >= len(other):
        return by_orders(one, other)
    # A word read from behind leads to the back of its order, so the product of two sums
    # with backs, taken the other way round, is that with backs: and the other sum, which
    # has more tuples, is then multiplied by the few orders of the one.
    return with_backs(by_orders(with_backs(other), with_backs(one)))
