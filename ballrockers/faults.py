"""Rockers that don't turn any more: what a board with such a fault tells, and which faults tell what was seen."""

from ballrockers.balls import Balls, told_by
from ballrockers.boards import MOST_NAME, look_at_leans
from ballrockers.errors import NoFault, NoNames, NoRow
from ballrockers.runs import look_at_row
from ballrockers.whole import is_tuple_within, is_whole_within


def broken(board, leans, fault, row):
    """A tuple (names, leans behind) of a row of feeders' balls on the board with this fault."""
    look_at_leans(board, leans)
    if not is_fault(fault, board[1]):
        raise NoFault()
    look_at_row(board, row)
    return told_by(Balls(board, fault), leans, row)


def faults_told(board, leans, rows, answers):
    """A tuple of all faults by which each row, begun from these leans, tells just its answer."""
    look_at_leans(board, leans)
    look_at_rows(board, rows)
    if not is_tuple_within(answers, len(rows), len(rows)) or not all([are_names(thing) for thing in answers]):
        raise NoNames()
    return tuple([fault for fault in faults_of(board[1]) if tells(Balls(board, fault), leans, rows, answers)])


def look_at_rows(board, thing):
    """Refuses what is no tuple of rows of feeders' numbers of a board that was looked at."""
    if not isinstance(thing, tuple):
        raise NoRow()
    for row in thing:
        look_at_row(board, row)


def tells(balls, leans, rows, answers):
    """Whether the balls of each row, begun from these leans, tell just its answer."""
    for row, answer in zip(rows, answers):
        if told_by(balls, leans, row)[0] != answer:
            return False
    return True


def faults_of(groups):
    """A list of all faults of a board with so many groups: None, then the groups, rising."""
    return [None] + list(range(groups))


def is_fault(thing, groups):
    """Whether the thing is a fault of a board with so many groups."""
    return thing is None or is_whole_within(thing, 0, groups - 1)


def are_names(thing):
    """Whether the thing is a tuple of names and None."""
    return isinstance(thing, tuple) and all([is_name_or_none(name) for name in thing])


def is_name_or_none(thing):
    """Whether the thing is a name, or None as of a ball that is stuck."""
    return thing is None or is_whole_within(thing, 0, MOST_NAME)
