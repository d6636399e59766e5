"""Orders: tuples of the numbers from 1 to n, each once."""

from undercells.errors import NoNumber, NoPair, NoWord

MOST_THINGS = 20


def is_whole(thing):
    """Whether a thing is a whole number: truths are none."""
    return isinstance(thing, int) and not isinstance(thing, bool)


def is_order(thing):
    """Whether any thing is an order."""
    if not isinstance(thing, tuple) or len(thing) < 1 or len(thing) > MOST_THINGS:
        return False
    if not all([is_whole(part) for part in thing]):
        return False
    return sorted(thing) == list(range(1, len(thing) + 1))


def plain_order(n):
    """The rising order of n things."""
    return tuple(range(1, n + 1))


def need_pair(one, other):
    """Refuse two orders of unlike numbers of things."""
    if len(one) != len(other):
        raise NoPair(f"orders of {len(one)} and of {len(other)} things")


def after(one, other):
    """The order of one after the other."""
    need_pair(one, other)
    return tuple([one[thing - 1] for thing in other])


def back(order):
    """The order that, after the one handed in, makes the plain one."""
    places = [0] * len(order)
    for at, thing in enumerate(order):
        places[thing - 1] = at + 1
    return tuple(places)


def is_exchange(n, thing):
    """Whether any thing is the number of an exchange of n things."""
    return is_whole(thing) and 1 <= thing < n


def exchanged_places(order, i, j):
    """The order with the things at the places i and j exchanged."""
    things = list(order)
    things[i - 1], things[j - 1] = things[j - 1], things[i - 1]
    return tuple(things)


def exchanged(order, k):
    """The order with the things at the places k and k + 1 exchanged."""
    if not is_exchange(len(order), k):
        raise NoWord(f"no exchange of {len(order)} things")
    return exchanged_places(order, k, k + 1)


def place_pairs(n):
    """All pairs of places (i, j) of n things, i below j, sorted."""
    return [(i, j) for i in range(1, n) for j in range(i + 1, n + 1)]


def wrong_pairs(order):
    """All pairs of places at whose first one the greater thing stands, sorted."""
    return [(i, j) for i, j in place_pairs(len(order)) if order[i - 1] > order[j - 1]]


def length(order):
    """How many wrong pairs an order has."""
    return len(wrong_pairs(order))


def falls(order):
    """All k at which the next thing is smaller, rising."""
    return [k for k in range(1, len(order)) if order[k - 1] > order[k]]


def factorial(n):
    """How many orders of n things there are."""
    many = 1
    for k in range(2, n + 1):
        many *= k
    return many


def number_of(order):
    """The number of an order among all of as many things, from 0 on."""
    number = 0
    for at, thing in enumerate(order):
        smaller = len([later for later in order[at + 1:] if later < thing])
        number = number * (len(order) - at) + smaller
    return number


def numbered(n, number):
    """The order of n things that has the number."""
    if not is_whole(number) or number < 0 or number >= factorial(n):
        raise NoNumber(f"no number of an order of {n} things")
    left = list(range(1, n + 1))
    things = []
    while left:
        many = factorial(len(left) - 1)
        things.append(left.pop(number // many))
        number = number - number // many * many
    return tuple(things)
