"""Texts of orders, words, polynomials and tables, and what is read of them."""

from undercells.errors import NoText
from undercells.orders import MOST_THINGS, is_order
from undercells.words import is_word

FIGURES = "0123456789"
MOST_FIGURES = 30
MOST_TERMS = 40
GREATEST_POWER = 60
# Python itself writes no numbers of more than some thousand figures, so they are written piece by piece.
PIECE_FIGURES = 64
PIECE = 10 ** 64


def show_numbers(numbers):
    """Numbers with one blank between, or a stroke where there are none."""
    return " ".join([str(number) for number in numbers]) if numbers else "-"


def show_order(order):
    """The text of an order."""
    return show_numbers(order)


def show_word(word):
    """The text of a word."""
    return show_numbers(word)


def show_table(table):
    """The text of a table."""
    return " / ".join([show_numbers(row) for row in table]) if table else "-"


def show_size(number):
    """A whole number without its sign, however great it is."""
    number = abs(number)
    told = ""
    while number >= PIECE:
        number, piece = divmod(number, PIECE)
        told = str(piece).zfill(PIECE_FIGURES) + told
    return str(number) + told


def show_term(power, number):
    """The text of a term without its sign."""
    size = show_size(number)
    if power == 0:
        return size
    letter = "v" if power == 1 else f"v^{power}"
    return letter if size == "1" else f"{size}*{letter}"


def show_poly(poly):
    """The text of a polynomial."""
    if not poly:
        return "0"
    told = ""
    for power, number in poly:
        sign = "-" if number < 0 else "+"
        told += f" {sign} {show_term(power, number)}"
    # The first sign stands right ahead, and only where it is a stroke.
    return told[3:] if told.startswith(" + ") else "-" + told[3:]


def read_number(text):
    """The whole number from 0 on that a text writes."""
    if not 1 <= len(text) <= MOST_FIGURES or not all([sign in FIGURES for sign in text]):
        raise NoText("no whole number")
    if text.startswith("0") and text != "0":
        raise NoText("a nought ahead of a whole number")
    return int(text)


def read_numbers(text):
    """The whole numbers that a text writes with one blank between."""
    return [read_number(part) for part in text.split(" ")]


def read_order(text):
    """The order that a text writes."""
    order = tuple(read_numbers(text))
    if not is_order(order):
        raise NoText("no order")
    return order


def read_word(text):
    """The word that a text writes."""
    word = [] if text == "-" else read_numbers(text)
    if not is_word(MOST_THINGS, word):
        raise NoText("no word")
    return word


def read_power(text):
    """The power that a text behind the letter writes, loosely."""
    if text == "":
        return 1
    power = text.removeprefix("^")
    return -read_number(power[1:]) if power.startswith("-") else read_number(power)


def read_term(sign, text):
    """The power and the number that the text of a term writes, loosely."""
    ahead, letter, behind = text.partition("v")
    power = read_power(behind) if letter else 0
    size = 1 if letter and not ahead else read_number(ahead.removesuffix("*"))
    return (power, -size if sign == "-" else size)


def read_terms(text):
    """The terms that a text writes, loosely."""
    signed = "- " + text[1:] if text.startswith("-") else "+ " + text
    parts = signed.split(" ")
    if len(parts) & 1:
        raise NoText("a sign without a term")
    return [read_term(parts[at], parts[at + 1]) for at in range(0, len(parts), 2)]


def is_within_bounds(poly):
    """Whether terms are a polynomial that may be read."""
    powers = [power for power, number in poly]
    if len(poly) > MOST_TERMS or powers != sorted(set(powers)):
        return False
    return all([number != 0 and abs(power) <= GREATEST_POWER for power, number in poly])


def read_poly(text):
    """The polynomial that a text writes."""
    poly = [] if text == "0" else read_terms(text)
    # What is read loosely must be written just so.
    if not is_within_bounds(poly) or show_poly(poly) != text:
        raise NoText("no polynomial")
    return poly
