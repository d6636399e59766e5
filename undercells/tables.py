"""Tables with rising rows, filled out of rows of letters, and the way back."""

from undercells.errors import NoTables
from undercells.orders import is_whole

GREATEST_LETTER = 10 ** 9
MOST_LETTERS = 40


def is_letter(thing):
    """Whether any thing is a letter."""
    return is_whole(thing) and 1 <= thing <= GREATEST_LETTER


def is_letters(thing):
    """Whether any thing is a list of letters, however many."""
    return isinstance(thing, list) and all([is_letter(part) for part in thing])


def is_row_of_letters(thing):
    """Whether any thing is a row of letters."""
    return is_letters(thing) and len(thing) <= MOST_LETTERS


def is_table_row(thing):
    """Whether any thing can be a row of a table: one letter or more that never fall."""
    return is_letters(thing) and len(thing) > 0 and thing == sorted(thing)


def fits_under(row, above):
    """Whether a row is no longer than the one above it, and each letter greater than that above."""
    return len(row) <= len(above) and all([high < low for high, low in zip(above, row)])


def is_table(thing):
    """Whether any thing is a table, however many places it has."""
    if not isinstance(thing, list) or not all([is_table_row(row) for row in thing]):
        return False
    return all([fits_under(thing[at], thing[at - 1]) for at in range(1, len(thing))])


def first_greater(row, letter):
    """The place, from 0 on, of the first letter that is greater, the end of the row where none is."""
    place = 0
    while place < len(row) and row[place] <= letter:
        place += 1
    return place


def put_into_rows(rows, letter):
    """Put a letter into the rows themselves, and tell the row, from 0 on, that has the new place."""
    at = 0
    while at < len(rows):
        place = first_greater(rows[at], letter)
        if place == len(rows[at]):
            rows[at].append(letter)
            return at
        rows[at][place], letter = letter, rows[at][place]
        at += 1
    rows.append([letter])
    return at


def copied(table):
    """The table, with new rows."""
    return [list(row) for row in table]


def put_in(table, letter):
    """The table that comes of one by putting a letter in."""
    told = copied(table)
    put_into_rows(told, letter)
    return told


def tables(row):
    """The first and the second table of a row of letters."""
    first = []
    second = []
    for at, letter in enumerate(row):
        new = put_into_rows(first, letter)
        if new == len(second):
            second.append([])
        second[new].append(at + 1)
    return (first, second)


def shape(table):
    """The lengths of the rows of a table."""
    return [len(row) for row in table]


def is_pair_of_tables(first, second):
    """Whether any two things are the two tables of a row of letters."""
    if not is_table(first) or not is_table(second) or shape(first) != shape(second):
        return False
    # With each number once, a table's rows and columns rise all of them.
    numbers = sorted([number for row in second for number in row])
    return len(numbers) <= MOST_LETTERS and numbers == list(range(1, len(numbers) + 1))


def last_smaller(row, letter):
    """The place, from 0 on, of the last letter that is smaller."""
    place = len(row) - 1
    while row[place] >= letter:
        place -= 1
    return place


def take_out(rows, at):
    """Take the last place of a row out of the rows themselves, and tell the letter that made it new."""
    letter = rows[at].pop()
    for up in range(at - 1, -1, -1):
        place = last_smaller(rows[up], letter)
        rows[up][place], letter = letter, rows[up][place]
    return letter


def row_back(first, second):
    """The row of letters that has the two tables."""
    if not is_pair_of_tables(first, second):
        raise NoTables("not the two tables of a row of letters")
    rows = copied(first)
    row_of = {number: at for at, row in enumerate(second) for number in row}
    told = []
    # The place that was new last is taken out first.
    for number in range(len(row_of), 0, -1):
        told.append(take_out(rows, row_of[number]))
    return told[::-1]
