"""Kept places, chains, steps, and the orders between two orders."""

from undercells.below import is_below
from undercells.bounds import need_bounds
from undercells.orders import back, exchanged, exchanged_places, need_pair, place_pairs, plain_order, wrong_pairs
from undercells.words import first_word

MOST_THINGS = 6
MOST_CLIMBED_THINGS = 9
MOST_CLIMBED_PAIRS = 4


def kept_places(one, other):
    """The places of the first word of other that, kept, are a shortest word of one, or None."""
    need_pair(one, other)
    # Where a shortest word of what is left of one can begin with the number, it may be
    # kept: what is left of both is below one another just where both were. Where it
    # cannot, it must be left out. So no choice is ever taken back.
    left = back(one)
    places = []
    for at, k in enumerate(first_word(other)):
        if left[k - 1] > left[k]:
            left = exchanged(left, k)
            places.append(at)
    return places if left == plain_order(len(one)) else None


def chain_step(one, other):
    """A step above one that is below other, where one is below other and unlike it."""
    i = 0
    while one[i] == other[i]:
        i += 1
    # The first greater thing behind i that is not above other's: none between stands
    # between both, so there is one wrong pair more, and other's count at i has room for it.
    j = i + 1
    while not one[i] < one[j] <= other[i]:
        j += 1
    return exchanged_places(one, i + 1, j + 1)


def chain(one, other):
    """A list of orders from one up to other, each a step above the one ahead, or None."""
    if not is_below(one, other):
        return None
    told = [one]
    while told[-1] != other:
        told.append(chain_step(told[-1], other))
    return told


def is_step(order, i, j):
    """Whether no thing at a place between i and j is between the two things there."""
    low = min(order[i - 1], order[j - 1])
    high = max(order[i - 1], order[j - 1])
    return not any([low < thing < high for thing in order[i:j - 1]])


def steps(order, pairs):
    """All orders that come of one by exchanging a pair of places with no thing between."""
    return sorted([exchanged_places(order, i, j) for i, j in pairs if is_step(order, i, j)])


def steps_above(order):
    """All orders that come of one by an exchange that makes just one wrong pair more, sorted."""
    return steps(order, [(i, j) for i, j in place_pairs(len(order)) if order[i - 1] < order[j - 1]])


def steps_below(order):
    """All orders of which one comes by an exchange that makes just one wrong pair more, sorted."""
    return steps(order, wrong_pairs(order))


def between(one, other):
    """All orders that one is below and that are below other, sorted."""
    need_pair(one, other)
    need_bounds(one, other, MOST_THINGS, MOST_CLIMBED_THINGS, MOST_CLIMBED_PAIRS)
    if not is_below(one, other):
        return []
    looked_at = {one: True}
    waiting = [one]
    while waiting:
        here = waiting.pop()
        for step in steps_above(here):
            if step not in looked_at:
                looked_at[step] = is_below(step, other)
                if looked_at[step]:
                    waiting.append(step)
    return sorted([order for order, is_between in looked_at.items() if is_between])
