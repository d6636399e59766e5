"""Right hearths, left hearths, and hearths of both."""

from undercells.errors import TooMany
from undercells.kept import leads_among
from undercells.orders import back, factorial, falls, numbered

MOST_THINGS = 4


def all_orders(n):
    """All orders of n things, sorted."""
    if n > MOST_THINGS:
        raise TooMany(f"no hearths of {n} things")
    return [numbered(n, number) for number in range(factorial(n))]


def has_other_fall(one, other):
    """Whether one has a fall that other has not."""
    return any([k not in falls(other) for k in falls(one)])


def reached_from(start, next_ones):
    """All orders that one comes to from an order, itself among them, as keys."""
    reached = {start: True}
    waiting = [start]
    while waiting:
        here = waiting.pop()
        for order in next_ones[here]:
            if order not in reached:
                reached[order] = True
                waiting.append(order)
    return reached


def gathered(next_ones):
    """The lists of orders of which each is reached from each other one, sorted lists, sorted."""
    reached = {order: reached_from(order, next_ones) for order in next_ones}
    told = []
    for order in sorted(next_ones):
        hearth = sorted([other for other in reached[order] if order in reached[other]])
        # Each hearth is told once, for its first order.
        if hearth[0] == order:
            told.append(hearth)
    return told


def right_hearths(n):
    """The right hearths of the orders of n things."""
    orders = all_orders(n)
    leads = leads_among(orders)
    # That an order may be led to itself joins it to no other one, so it is left out.
    return gathered({
        one: [other for other in orders if (one, other) in leads and has_other_fall(other, one)] for one in orders
    })


def with_backs(hearths):
    """The hearths of the backs of the orders."""
    return sorted([sorted([back(order) for order in hearth]) for hearth in hearths])


def left_hearths(n):
    """The left hearths of the orders of n things."""
    return with_backs(right_hearths(n))


def both_hearths(n):
    """The hearths of both of the orders of n things."""
    right = right_hearths(n)
    next_ones = {order: [] for order in all_orders(n)}
    for hearth in right + with_backs(right):
        for order in hearth:
            next_ones[order].extend(hearth)
    return gathered(next_ones)
