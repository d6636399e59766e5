"""The tables of numbers of a right hearth, and the matching of two right hearths of one shape."""

from undercells.errors import NoPair
from undercells.kept import leads_among
from undercells.orders import falls
from undercells.tables import shape, tables


def number_at(k, one, other, leads):
    """The number in the row of one for the other in the table of k."""
    is_fall = k in falls(one)
    if one == other:
        return 1 if is_fall else -1
    if is_fall or k not in falls(other):
        return 0
    return leads.get((one, other), 0)


def number_tables(hearth):
    """For each exchange the table of numbers of a right hearth."""
    leads = leads_among(hearth)
    return [
        [[number_at(k, one, other, leads) for other in hearth] for one in hearth] for k in range(1, len(hearth[0]))
    ]


def shape_of(hearth):
    """The shape of the first tables of the orders of a right hearth: they have one first table."""
    return shape(tables(list(hearth[0]))[0])


def second_table(order):
    """The second table of an order."""
    return tables(list(order))[1]


def matched(one, other):
    """For each order of one right hearth the one of the other that has the same second table."""
    # Unlike numbers of things make unlike shapes.
    if shape_of(one) != shape_of(other):
        raise NoPair("right hearths of unlike shapes")
    seconds = [second_table(order) for order in other]
    return [(order, other[seconds.index(second_table(order))]) for order in one]
