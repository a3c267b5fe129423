"""One board put above another one."""

from ballrockers.boards import MOST_GROUPS, MOST_ROWS, look_at_board
from ballrockers.errors import NoFit, TooGreat


def below(board, other):
    """The board whose balls fall through the one, and then through the other one below it."""
    look_at_board(board)
    look_at_board(other)
    width, groups, rows, feeders = board[:4]
    other_width, other_groups, other_rows, other_feeders, doors = other
    if width != other_width:
        raise NoFit()
    # The row between makes a ball come straight down to the other one.
    all_rows = rows + ((".",) * width,) + moved_rows(other_rows, groups)
    all_groups = groups + other_groups
    if all_groups > MOST_GROUPS or len(all_rows) > MOST_ROWS:
        raise TooGreat()
    return width, all_groups, all_rows, feeders, kept_doors(doors, len(feeders))


def moved_rows(rows, more):
    """The rows, each rocker's group's number greater by so many."""
    return tuple([tuple([moved_piece(piece, more) for piece in places]) for places in rows])


def moved_piece(piece, more):
    """The piece, a rocker's group's number greater by so many."""
    if not isinstance(piece, tuple):
        return piece
    group, side = piece
    return group + more, side


def kept_doors(doors, feeders):
    """The doors, each call of none of so many feeders None."""
    return tuple([(name, kept_call(call, feeders)) for name, call in doors])


def kept_call(call, feeders):
    """The call, None where it's of none of so many feeders."""
    return call if call is not None and call < feeders else None
