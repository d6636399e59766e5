"""The bounds for two orders: how many things, and how many wrong pairs more."""

from undercells.errors import TooMany
from undercells.orders import length


def need_bounds(one, other, free_things, most_things, most_pairs):
    """Refuse more things than are free, unless they are few and other has few wrong pairs more than one."""
    if len(one) <= free_things:
        return
    if len(one) > most_things or length(other) - length(one) > most_pairs:
        raise TooMany("too many things, or too many wrong pairs more")
