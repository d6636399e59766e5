"""Which order is below which, by counts."""

from undercells.orders import need_pair


def bar(one, other):
    """The first place and thing for which one has more things from there on than other, or None."""
    need_pair(one, other)
    # more[j - 1]: how many more things from j on one has than other, up to the place.
    more = [0] * len(one)
    for at in range(len(one)):
        for j in range(one[at]):
            more[j] += 1
        for j in range(other[at]):
            more[j] -= 1
        if max(more) > 0:
            return (at + 1, first_above_nought(more))
    return None


def first_above_nought(numbers):
    """The place, from 1 on, of the first number above 0."""
    place = 1
    while numbers[place - 1] <= 0:
        place += 1
    return place


def is_below(one, other):
    """Whether one order is below the other."""
    return bar(one, other) is None
