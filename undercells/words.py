"""Words: lists of numbers of exchanges, and the orders that they lead to."""

from undercells.errors import NoWord, TooMany
from undercells.orders import back, exchanged, falls, is_exchange, length, plain_order

MOST_NUMBERS = 200
MOST_COUNTED_THINGS = 5


def is_word(n, thing):
    """Whether any thing is a word of n."""
    if not isinstance(thing, list) or len(thing) > MOST_NUMBERS:
        return False
    return all([is_exchange(n, part) for part in thing])


def led_by(n, word):
    """The order to which a word leads from the plain one."""
    if not is_word(n, word):
        raise NoWord(f"no word of {n}")
    order = plain_order(n)
    for k in word:
        order = exchanged(order, k)
    return order


def is_shortest(n, word):
    """Whether no word that leads to the same order has fewer numbers."""
    return length(led_by(n, word)) == len(word)


def first_word(order):
    """The first one, as lists go, of the shortest words of an order."""
    # A shortest word can begin with k just where k is a fall of the back,
    # and what is left of the order then has the back exchanged at k.
    left = back(order)
    word = []
    can_begin = falls(left)
    while can_begin:
        word.append(can_begin[0])
        left = exchanged(left, can_begin[0])
        can_begin = falls(left)
    return word


def many_words(order):
    """How many shortest words an order of at most five things has."""
    if len(order) > MOST_COUNTED_THINGS:
        raise TooMany(f"words are not counted for {len(order)} things")
    return counted_words(order, {})


def counted_words(order, known):
    """How many shortest words an order has; known keeps each count for this one call."""
    if order not in known:
        ends = falls(order)
        # The plain order has no fall, and one word: that without numbers.
        many = 0 if ends else 1
        for k in ends:
            many += counted_words(exchanged(order, k), known)
        known[order] = many
    return known[order]
