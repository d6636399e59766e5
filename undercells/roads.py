"""Roads and falls: words that come of one another by told deeds."""

from undercells.errors import NoPair, TooMany
from undercells.orders import exchanged, length
from undercells.words import first_word, is_shortest, led_by

MOST_THINGS = 9
MOST_NUMBERS = 8


def is_beyond(n, word):
    """Whether a word, or its number of things, is too great to be led."""
    return n > MOST_THINGS or len(word) > MOST_NUMBERS


def changed_places(word):
    """All words in which two neighbours that differ by 2 or more have changed places."""
    return [
        word[:at] + (word[at + 1], word[at]) + word[at + 2:]
        for at in range(len(word) - 1)
        if abs(word[at] - word[at + 1]) > 1
    ]


def turned_threes(word):
    """All words in which k, l, k has become l, k, l, where k and l differ by 1."""
    return [
        word[:at] + (word[at + 1], word[at], word[at + 1]) + word[at + 3:]
        for at in range(len(word) - 2)
        if word[at] == word[at + 2] and abs(word[at] - word[at + 1]) == 1
    ]


def left_out(word):
    """All words in which two neighbours alike are left out."""
    return [word[:at] + word[at + 2:] for at in range(len(word) - 1) if word[at] == word[at + 1]]


def traced(ahead, last):
    """The words from the first one, which has none ahead, to the last, as new lists."""
    told = []
    while last is not None:
        told.append(list(last))
        last = ahead[last]
    return told[::-1]


def found_road(one, other):
    """A road with as few words as can be between two shortest words of one order."""
    start = tuple(one)
    end = tuple(other)
    ahead = {start: None}
    waiting = [start]
    at = 0
    # Deeds of these two kinds join all shortest words of an order: the end is come to.
    while end not in ahead:
        here = waiting[at]
        for word in changed_places(here) + turned_threes(here):
            if word not in ahead:
                ahead[word] = here
                waiting.append(word)
        at += 1
    return traced(ahead, end)


def road(n, one, other):
    """A list of words from one shortest word to another one of the same order."""
    order = led_by(n, one)
    if led_by(n, other) != order or len(one) != length(order) or len(other) != length(order):
        raise NoPair("not both shortest words of one order")
    # Both have as many numbers here: one look is enough.
    if is_beyond(n, one):
        raise TooMany("a road is told for at most nine things and eight numbers")
    return found_road(one, other)


def shortest_beginning(n, word):
    """How many numbers the longest beginning of a word has that is a shortest word."""
    many = len(word)
    while not is_shortest(n, word[:many]):
        many -= 1
    return many


def led_down(n, word):
    """The words that come of one that is not shortest, up to the first with fewer numbers."""
    many = shortest_beginning(n, word)
    k = word[many]
    # k is a fall of the order come to so far, so a shortest word of it ends with k.
    shorter = first_word(exchanged(led_by(n, word[:many]), k))
    told = [begin + word[many:] for begin in found_road(word[:many], shorter + [k])]
    told.append(shorter + word[many + 1:])
    return told[1:]


def fall(n, word):
    """A list of words from a word to a shortest one of its order."""
    led_by(n, word)
    if is_beyond(n, word):
        raise TooMany("a fall is told for at most nine things and eight numbers")
    told = [list(word)]
    while not is_shortest(n, told[-1]):
        told.extend(led_down(n, told[-1]))
    return told
