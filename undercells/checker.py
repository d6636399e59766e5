"""The checker: it looks at papers, whatever they are, and trusts none of them."""

from undercells.below import is_below
from undercells.moves import moved
from undercells.orders import MOST_THINGS, is_order, is_whole, length
from undercells.plains import stands_so
from undercells.roads import changed_places, left_out, turned_threes
from undercells.tables import is_row_of_letters
from undercells.turning import turning
from undercells.words import first_word, is_word, led_by

MOST_KEPT_THINGS = 5


def are_whole(things):
    """Whether all things are whole numbers."""
    return all([is_whole(thing) for thing in things])


def are_rising(things):
    """Whether each of some things that can be held against one another is greater than the one ahead."""
    return all([ahead < thing for ahead, thing in zip(things, things[1:])])


def are_rising_within(things, least, most):
    """Whether things are whole numbers that rise, none below the least or above the most."""
    if not are_whole(things) or not are_rising(things):
        return False
    return all([least <= thing <= most for thing in things])


def are_like_orders(things):
    """Whether things, at least one, are orders of as many things."""
    return all([is_order(thing) for thing in things]) and len({len(thing) for thing in things}) == 1


def below_holds(paper):
    """Whether kept places show that an order is below another one."""
    one, other, places = paper[1:]
    if not are_like_orders([one, other]) or not isinstance(places, list):
        return False
    word = first_word(other)
    if not are_rising_within(places, 0, len(word) - 1):
        return False
    left = [word[place] for place in places]
    return len(left) == length(one) and led_by(len(one), left) == one


def is_step_up(ahead, order):
    """Whether an order comes of one of as many things by an exchange that makes one wrong pair more."""
    unlike = [thing for thing, new in zip(ahead, order) if thing != new]
    return len(unlike) == 2 and length(order) == length(ahead) + 1


def chain_holds(paper):
    """Whether orders are a chain."""
    orders = paper[1]
    if not isinstance(orders, list) or not are_like_orders(orders):
        return False
    return all([is_step_up(ahead, order) for ahead, order in zip(orders, orders[1:])])


def count_from(order, i, j):
    """How many of the first i things of an order are from j on."""
    return len([thing for thing in order[:i] if thing >= j])


def bar_holds(paper):
    """Whether two numbers are a bar of two orders."""
    one, other, numbers = paper[1:]
    if not are_like_orders([one, other]) or not isinstance(numbers, tuple):
        return False
    if len(numbers) != 2 or not are_whole(numbers):
        return False
    i, j = numbers
    if not 1 <= i <= len(one) or not 1 <= j <= len(one):
        return False
    return count_from(one, i, j) > count_from(other, i, j)


def is_deed(ahead, word):
    """Whether a word comes of the one ahead by one of the three deeds."""
    start = tuple(ahead)
    return tuple(word) in changed_places(start) + turned_threes(start) + left_out(start)


def road_holds(paper):
    """Whether words of n come of one another by the three deeds."""
    n, words = paper[1:]
    if not is_whole(n) or not 1 <= n <= MOST_THINGS or not isinstance(words, list) or not words:
        return False
    if not all([is_word(n, word) for word in words]):
        return False
    return all([is_deed(ahead, word) for ahead, word in zip(words, words[1:])])


def four_holds(paper):
    """Whether four places of an order stand as 3412 or as 4231."""
    order, places = paper[1:]
    if not is_order(order) or not isinstance(places, tuple) or len(places) != 4:
        return False
    if not are_rising_within(places, 1, len(order)):
        return False
    first, second, third, fourth = [order[place - 1] for place in places]
    return stands_so(first, second, third, fourth)


def moves_holds(paper):
    """Whether rows of letters come of one another by moves."""
    rows = paper[1]
    if not isinstance(rows, list) or not rows or not all([is_row_of_letters(row) for row in rows]):
        return False
    return all([row in moved(ahead) for ahead, row in zip(rows, rows[1:])])


def is_pair(thing):
    """Whether a thing is a tuple of two things."""
    return isinstance(thing, tuple) and len(thing) == 2


def is_polynomial(thing):
    """Whether a thing is a polynomial."""
    if not isinstance(thing, list) or not all([is_pair(term) and are_whole(term) for term in thing]):
        return False
    return are_rising([power for power, number in thing]) and all([number != 0 for power, number in thing])


def is_sum(n, thing):
    """Whether a thing is a sum of orders of n things."""
    if not isinstance(thing, list) or not all([is_pair(part) for part in thing]):
        return False
    if not all([is_order(order) and len(order) == n and is_polynomial(poly) for order, poly in thing]):
        return False
    return are_rising([order for order, poly in thing]) and all([poly != [] for order, poly in thing])


def is_small(lower, poly, order):
    """Whether what stands before an order in the kept sum of another one may stand there."""
    if lower == order:
        return poly == [(0, 1)]
    return is_below(lower, order) and poly[0][0] >= 1


def kept_holds(paper):
    """Whether a sum is the kept sum of an order, by the turning."""
    order, terms = paper[1:]
    if not is_order(order) or len(order) > MOST_KEPT_THINGS or not is_sum(len(order), terms):
        return False
    if order not in dict(terms) or not all([is_small(lower, poly, order) for lower, poly in terms]):
        return False
    return turning(terms) == terms


# By the word that a paper begins with and the number of its parts.
LOOKS = {
    ("below", 4): below_holds,
    ("chain", 2): chain_holds,
    ("bar", 4): bar_holds,
    ("road", 3): road_holds,
    ("four", 3): four_holds,
    ("moves", 2): moves_holds,
    ("kept", 3): kept_holds,
}


def holds(paper):
    """Whether any thing is a paper that holds."""
    if not isinstance(paper, tuple) or len(paper) == 0 or not isinstance(paper[0], str):
        return False
    kind = (paper[0], len(paper))
    if kind not in LOOKS:
        return False
    look = LOOKS[kind]
    return look(paper)
