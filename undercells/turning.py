"""The turning of sums."""

from undercells.orders import exchanged
from undercells.polys import LESS_BACK, times, turned
from undercells.sums import added, as_sum, by_exchange, put_before, scaled
from undercells.words import first_word


def turned_order(order, known):
    """What the turning makes of an order alone; known keeps each for this one call."""
    if order not in known:
        word = first_word(order)
        if word:
            # The first word without its last number is the first word of what it leads to.
            ahead = turned_order(exchanged(order, word[-1]), known)
            known[order] = added(by_exchange(ahead, word[-1]), scaled(list(LESS_BACK), ahead))
        else:
            known[order] = [(order, [(0, 1)])]
    return known[order]


def turning(one):
    """The sum to which the turning leads a sum."""
    found = {}
    known = {}
    for order, poly in one:
        for at, many in turned_order(order, known):
            put_before(found, at, times(turned(poly), many))
    return as_sum(found)
