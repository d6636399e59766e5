"""Plain orders, by their fours, and the pairs below an order."""

from undercells.below import is_below
from undercells.orders import exchanged_places, place_pairs, plain_order


def stands_so(first, second, third, fourth):
    """Whether four things, from left to right, stand as 3412 or as 4231."""
    return third < fourth < first < second or fourth < second < third < first


def first_four(order):
    """The first four places that stand as 3412 or as 4231, or None."""
    pairs = place_pairs(len(order))
    for i, j in pairs:
        for k, m in pairs:
            if j < k and stands_so(order[i - 1], order[j - 1], order[k - 1], order[m - 1]):
                return (i, j, k, m)
    return None


def pairs_below(order):
    """All pairs (i, j) such that the plain order with the things i and j exchanged is below an order, sorted."""
    plain = plain_order(len(order))
    return [(i, j) for i, j in place_pairs(len(order)) if is_below(exchanged_places(plain, i, j), order)]
