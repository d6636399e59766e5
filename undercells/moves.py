"""Moves: rows of letters that come of one another and have one first table."""

from undercells.errors import TooMany
from undercells.tables import first_greater, put_in

MOST_LED_LETTERS = 12


def plain_row(table):
    """The rows of a table, the last one first, one behind another."""
    return [letter for row in reversed(table) for letter in row]


def may_change(row, at):
    """Whether the letters at the places at and at + 1, from 0 on, change places by a move."""
    low = min(row[at], row[at + 1])
    high = max(row[at], row[at + 1])
    if at + 2 < len(row) and low <= row[at + 2] < high:
        return True
    return at > 0 and low < row[at - 1] <= high


def changed(row, at):
    """The row with the letters at the places at and at + 1, from 0 on, in each other's place."""
    return row[:at] + [row[at + 1], row[at]] + row[at + 2:]


def moved(row):
    """All rows that come of a row by one move, sorted."""
    # A move makes unlike neighbours change places, so other neighbours make another row.
    return sorted([changed(row, at) for at in range(len(row) - 1) if may_change(row, at)])


def go_on(road, at):
    """Let a road go on by a change of neighbours; where it comes by a row again, cut off the way round."""
    here = changed(road[-1], at)
    if here in road:
        del road[road.index(here) + 1:]
    else:
        road.append(here)


def lead_in(road, table, end):
    """Let a road go on until the letter at the place end is put into the table whose plain row is ahead of it."""
    for row in table:
        letter = road[-1][end]
        start = end - len(row)
        place = start + first_greater(row, letter)
        if place == end:
            return
        # The letter goes to right behind the first greater one, and that one then to the
        # start of the row, which is the end of the next one: each change is a move.
        for at in range(end - 1, place, -1):
            go_on(road, at)
        for at in range(place - 1, start - 1, -1):
            go_on(road, at)
        end = start


def road_of_moves(row):
    """A list of rows from a row of letters to the plain row of its first table."""
    if len(row) > MOST_LED_LETTERS:
        raise TooMany(f"no road of moves is told for {len(row)} letters")
    road = [list(row)]
    table = []
    for at, letter in enumerate(row):
        lead_in(road, table, at)
        table = put_in(table, letter)
    return road
