"""Rising rows of exchanges from an order to another one."""

from undercells.below import is_below
from undercells.orders import exchanged_places, place_pairs
from undercells.rests import need_rest


def rising_rows(one, other):
    """All rising rows from one to other, sorted."""
    need_rest(one, other)
    return sorted(rows_of(one, other, place_pairs(len(one))))


def rows_of(here, other, pairs):
    """All rising rows out of the pairs from here to other."""
    if here == other:
        return [[]]
    told = []
    for at, (i, j) in enumerate(pairs):
        step = exchanged_places(here, i, j)
        if here[i - 1] < here[j - 1] and is_below(step, other):
            for row in rows_of(step, other, pairs[at + 1:]):
                told.append([(i, j)] + row)
    return told
