"""Runs of balls, one after another: by a told row of feeders, or as the doors call them."""

from ballrockers.balls import Balls, told_by
from ballrockers.boards import is_row, look_at_leans, look_at_stand
from ballrockers.errors import NoNumber, NoRow
from ballrockers.ways import come_out
from ballrockers.whole import is_whole_within

MOST_BALLS = 2000


def told(board, leans, row):
    """A tuple (names, leans behind) of a row of feeders' balls, whatever doors call."""
    look_at_leans(board, leans)
    look_at_row(board, row)
    return told_by(Balls(board), leans, row)


def called(board, stand, most):
    """A tuple (names, stand behind) of at most so many balls, as the doors call them."""
    look_at_stand(board, stand)
    if not is_whole_within(most, 0, MOST_BALLS):
        raise NoNumber()
    leans, feeder = stand
    names = []
    while feeder is not None and len(names) < most:
        door, leans = come_out(board, leans, feeder)
        name, feeder = door
        names.append(name)
    return tuple(names), (leans, feeder)


def look_at_row(board, thing):
    """Refuses what is no row of feeders' numbers of a board that was looked at."""
    if not is_row(thing, len(board[3]), MOST_BALLS):
        raise NoRow()
