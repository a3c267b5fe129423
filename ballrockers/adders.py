"""Boards that add."""

from ballrockers.errors import NoNumber
from ballrockers.making import digit_rows, row_of, turning_rows
from ballrockers.whole import is_whole_within

MOST_SIZE = 3

# A ball that finds the first number 0 comes down in this column, one by which the second number becomes 0 beside it.
LAST_COLUMN = 1
OVER_COLUMN = 2
PLAIN_DOOR = (0, 0)
OVER_DOOR = (1, 0)
LAST_DOOR = (2, None)


def adder(size):
    """A board that takes its first number, ball by ball, to its second one, both of so many digits."""
    if not is_whole_within(size, 1, MOST_SIZE):
        raise NoNumber()
    width = size + 4
    one_column = LAST_COLUMN + size
    other_column = OVER_COLUMN + size
    # A digit of the first number lends where it's 0, one of the second number carries where it's 1.
    rows = digit_rows(width, one_column, 0, size, 0)
    rows += turned_back(width, size)
    rows += gathered(width, other_column, size)
    rows += digit_rows(width, other_column, size, size, 1)
    doors = [PLAIN_DOOR for column in range(width)]
    doors[OVER_COLUMN] = OVER_DOOR
    doors[LAST_COLUMN] = LAST_DOOR
    return width, 2 * size, tuple(rows), (one_column,), tuple(doors)


def turned_back(width, size):
    """Rows that turn the first number's digits to 0 again, all of which the last ball turned to 1."""
    rows = []
    for group in range(size):
        rows += turning_rows(width, {LAST_COLUMN: (group, 0)})
    return rows


def gathered(width, column, size):
    """Rows that lead each ball but the last one to the column."""
    ramps = {at: ">" for at in range(LAST_COLUMN + 1, column)}
    return [row_of(width, ramps) for step in range(size - 1)]
