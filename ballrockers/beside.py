"""One board put at the left of another one."""

from ballrockers.boards import MOST_COLUMNS, MOST_FEEDERS, MOST_GROUPS, look_at_board
from ballrockers.errors import TooGreat
from ballrockers.joined import moved_rows


def beside(board, other):
    """The board whose balls fall through the one or through the other one, each by itself."""
    look_at_board(board)
    look_at_board(other)
    width, groups, rows, feeders, doors = board
    other_width, other_groups, other_rows, other_feeders, other_doors = other
    all_width = width + other_width
    all_groups = groups + other_groups
    all_feeders = feeders + tuple([column + width for column in other_feeders])
    if all_width > MOST_COLUMNS or all_groups > MOST_GROUPS or len(all_feeders) > MOST_FEEDERS:
        raise TooGreat()
    many = max(len(rows), len(other_rows))
    left = filled_rows(rows, width, many)
    right = filled_rows(moved_rows(other_rows, groups), other_width, many)
    all_rows = tuple([places + other_places for places, other_places in zip(left, right)])
    return all_width, all_groups, all_rows, all_feeders, doors + moved_doors(other_doors, len(feeders))


def filled_rows(rows, width, many):
    """The rows, and rows of empty places below, so many in all."""
    return rows + ((".",) * width,) * (many - len(rows))


def moved_doors(doors, more):
    """The doors, each call's feeder's number greater by so many."""
    return tuple([(name, None if call is None else call + more) for name, call in doors])
