"""Boards that count."""

from ballrockers.errors import NoNumber
from ballrockers.groups import least_groups
from ballrockers.making import binary, digit_rows, turning_rows
from ballrockers.whole import is_whole_within

MOST_COUNTED = 256

# A ball by which all digits become 0 comes down in this column.
OVER_COLUMN = 1
PLAIN_DOOR = (0, 0)
OVER_DOOR = (1, 0)


def counter(number):
    """A tuple (board, leans): from these leans on each number-th ball comes out by the name 1, all others by 0."""
    if not is_whole_within(number, 1, MOST_COUNTED):
        raise NoNumber()
    groups = least_groups(number, 1)
    width = groups + 3
    column = OVER_COLUMN + groups
    # It counts up to where the digits are all 1; from 2 ** groups less number on that takes just number balls.
    leans = binary(-number, groups)
    rows = digit_rows(width, column, 0, groups, 1)
    for group, lean in enumerate(leans):
        # The ball by which all became 0 turns to 1 again what is 1 in the first leans.
        if lean == 1:
            rows += turning_rows(width, {OVER_COLUMN: (group, 1)})
    doors = [PLAIN_DOOR for at in range(width)]
    doors[OVER_COLUMN] = OVER_DOOR
    return (width, groups, tuple(rows), (column,), tuple(doors)), leans
