"""The desk: it keeps orders by names, and is told rows."""

from undercells.below import bar
from undercells.chains import between
from undercells.errors import NoName, NoRow, TooMany
from undercells.hearths import both_hearths, left_hearths, right_hearths
from undercells.orders import back, exchanged, need_pair
from undercells.parts import polynomial
from undercells.plains import first_four
from undercells.tables import tables
from undercells.texts import read_order, read_word, show_order, show_poly, show_table, show_word
from undercells.words import first_word

SMALL_LETTERS = "abcdefghijklmnopqrstuvwxyz"
MOST_LETTERS = 8
MOST_NAMES = 40
MOST_ROWS_BACK = 20
# How many names stand behind the first word of a row; ORDER or WORD stands behind the name of the first two.
NAMES = {
    "keep": 1, "lead": 1, "drop": 1, "show": 1, "word": 1, "plain": 1, "tables": 1,
    "back": 2, "below": 2, "between": 2, "kept": 2, "hearth": 2, "undo": 0,
}
WITH_NUMBERS = ("keep", "lead")


def is_name(word):
    """Whether a word is written as a name."""
    return 1 <= len(word) <= MOST_LETTERS and all([sign in SMALL_LETTERS for sign in word])


def has_form(words):
    """Whether the words of a row have one of the forms."""
    if words[0] not in NAMES or "" in words:
        return False
    known = NAMES[words[0]] + 1
    if words[0] in WITH_NUMBERS:
        return len(words) > known and is_name(words[1])
    return len(words) == known and all([is_name(word) for word in words[1:]])


def led_on(order, word):
    """The order to which a word leads from an order."""
    for k in word:
        order = exchanged(order, k)
    return order


def yes_or_no(numbers):
    """Yes where there are no numbers against it, else no and the numbers."""
    return "yes" if numbers is None else "no " + " ".join([str(number) for number in numbers])


def are_of_one(one, other, hearths):
    """Whether two orders are of one of the hearths."""
    return any([one in hearth and other in hearth for hearth in hearths])


def hearth_of_two(one, other):
    """Which hearths two orders have in common."""
    need_pair(one, other)
    right = are_of_one(one, other, right_hearths(len(one)))
    left = are_of_one(one, other, left_hearths(len(one)))
    if right and left:
        return "one"
    if right:
        return "right"
    if left:
        return "left"
    return "both" if are_of_one(one, other, both_hearths(len(one))) else "none"


def asked_of_one(kind, order):
    """The answer to a row that asks about one order."""
    if kind == "show":
        return show_order(order)
    if kind == "word":
        return show_word(first_word(order))
    if kind == "plain":
        return yes_or_no(first_four(order))
    first, second = tables(list(order))
    return f"{show_table(first)}; {show_table(second)}"


def asked_of_two(kind, one, other):
    """The answer to a row that asks about two orders."""
    if kind == "below":
        return yes_or_no(bar(one, other))
    if kind == "between":
        return str(len(between(one, other)))
    if kind == "kept":
        return show_poly(polynomial(one, other))
    return hearth_of_two(one, other)


class Desk:
    """Keeps orders by names."""

    def __init__(self):
        self.orders = {}
        # Of each row that may be undone the name, and what was kept by it, None where nothing was.
        self.past = []

    def named(self, name):
        """The order that is kept by a name."""
        if name not in self.orders:
            raise NoName(f"nothing is kept by {name}")
        return self.orders[name]

    def remember(self, name):
        """Remember what is kept by a name, so that it can be undone."""
        self.past.append((name, self.orders.get(name)))
        self.past = self.past[-MOST_ROWS_BACK:]

    def put(self, name, order):
        """Keep an order by a name."""
        if name not in self.orders and len(self.orders) >= MOST_NAMES:
            raise TooMany("the desk has forty names")
        self.remember(name)
        self.orders[name] = order
        return "ok"

    def drop(self, name):
        """Keep nothing by a name any longer."""
        self.named(name)
        self.remember(name)
        del self.orders[name]
        return "ok"

    def undo(self):
        """Undo the last row that changed something and is not undone yet."""
        if not self.past:
            raise TooMany("nothing is left to undo")
        name, order = self.past.pop()
        if order is None:
            del self.orders[name]
        else:
            self.orders[name] = order
        return "ok"

    def say(self, row):
        """Do what a row says, and tell the answer."""
        words = row.split(" ")
        if not has_form(words):
            raise NoRow("a row of no known form")
        kind = words[0]
        if kind == "undo":
            return self.undo()
        if kind == "keep":
            return self.put(words[1], read_order(" ".join(words[2:])))
        if kind == "lead":
            word = read_word(" ".join(words[2:]))
            return self.put(words[1], led_on(self.named(words[1]), word))
        if kind == "drop":
            return self.drop(words[1])
        if kind == "back":
            return self.put(words[2], back(self.named(words[1])))
        orders = [self.named(name) for name in words[1:]]
        return asked_of_one(kind, orders[0]) if len(orders) == 1 else asked_of_two(kind, orders[0], orders[1])
