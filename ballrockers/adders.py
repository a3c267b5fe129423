"""Boards that add."""

from ballrockers.errors import NoNumber
from ballrockers.whole import is_whole_within

MOST_SIZE = 3

# A ball that finds the first number 0 comes down in this column, one by which the second number becomes 0 beside it.
LAST_COLUMN = 1
OVER_COLUMN = 2
PLAIN_DOOR = (0, 0)
OVER_DOOR = (1, 0)
LAST_DOOR = (2, None)


def adder(size):
    """A board that takes its first number, ball by ball, to its second one, both of so many digits."""
    if not is_whole_within(size, 1, MOST_SIZE):
        raise NoNumber()
    width = size + 4
    one_column = LAST_COLUMN + size
    other_column = OVER_COLUMN + size
    # A digit of the first number lends where it's 0, one of the second number carries where it's 1.
    rows = digits(width, one_column, 0, size, 0)
    rows += turned_back(width, size)
    rows += gathered(width, other_column, size)
    rows += digits(width, other_column, size, size, 1)
    doors = [PLAIN_DOOR for column in range(width)]
    doors[OVER_COLUMN] = OVER_DOOR
    doors[LAST_COLUMN] = LAST_DOOR
    return width, 2 * size, tuple(rows), (one_column,), tuple(doors)


def digits(width, column, group, size, side):
    """Rows of a rocker each: to the left a ball comes to the next digit's one, to the right it comes past them all."""
    return [row_of(width, {column - at: (group + at, side)}) for at in range(size)]


def turned_back(width, size):
    """Rows that turn the first number's digits to 0 again, all of which the last ball turned to 1."""
    rows = []
    for group in range(size):
        rows.append(row_of(width, {LAST_COLUMN: (group, 0)}))
        # Leaning by 1, the rocker leads to the right.
        rows.append(row_of(width, {LAST_COLUMN + 1: "<"}))
    return rows


def gathered(width, column, size):
    """Rows that lead each ball but the last one to the column."""
    ramps = {at: ">" for at in range(LAST_COLUMN + 1, column)}
    return [row_of(width, ramps) for step in range(size - 1)]


def row_of(width, pieces):
    """A row of such pieces by their columns, nothing else in it."""
    return tuple([pieces.get(column, ".") for column in range(width)])
