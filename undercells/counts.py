"""How many orders of each length are below an order, plainly and weighed."""

from undercells.chains import between
from undercells.errors import TooMany
from undercells.kept import kept_sum
from undercells.orders import length, plain_order

MOST_THINGS = 6


def count(order):
    """How many orders of each length, from 0 on, are below an order."""
    if len(order) > MOST_THINGS:
        raise TooMany(f"orders below are not counted for {len(order)} things")
    told = [0] * (length(order) + 1)
    for lower in between(plain_order(len(order)), order):
        told[length(lower)] += 1
    return told


def weighed(order):
    """The count of an order, each order below weighed by its polynomial in the order."""
    terms = kept_sum(order)
    most = length(order)
    told = [0] * (most + 1)
    for lower, poly in terms:
        both = length(lower) + most
        for power, number in poly:
            told[(both - power) // 2] += number
    return told
