"""The way of one ball: where it falls, which groups it turns, how the rockers lean behind it."""

from ballrockers.boards import look_at_leans
from ballrockers.errors import NoFeeder
from ballrockers.whole import is_just, is_whole_within

# A heading is how many columns further to the right a ball comes to the next row; None: it doesn't, it's stuck.
LEFT = -1
STRAIGHT = 0
RIGHT = 1

# What a ball that is stuck comes out by: no name is told, and no ball is called.
NO_DOOR = (None, None)


def way(board, leans, feeder):
    """A tuple (columns, turned, behind) of a ball of the feeder."""
    look_at_feeder(board, leans, feeder)
    return fallen(board, leans, feeder)


def way_holds(board, leans, feeder, paper):
    """Whether the paper is just what way tells."""
    look_at_feeder(board, leans, feeder)
    return is_just(paper, fallen(board, leans, feeder))


def look_at_feeder(board, leans, thing):
    """Refuses what is no board, what isn't leans of it, then what is no number of its feeders."""
    look_at_leans(board, leans)
    if not is_whole_within(thing, 0, len(board[3]) - 1):
        raise NoFeeder()


def fallen(board, leans, feeder, fault=None):
    """What way tells, of a board, leans and a feeder that were looked at; the fault's group isn't turned."""
    column = board[3][feeder]
    columns = [column]
    turned = []
    leaning = list(leans)
    heading = STRAIGHT
    for places in board[2]:
        piece = places[column]
        heading = heading_behind(piece, heading, leaning, fault)
        if heading is None:
            break
        if isinstance(piece, tuple) and piece[0] != fault:
            turned.append(piece[0])
        column += heading
        columns.append(column)
    return tuple(columns), tuple(turned), tuple(leaning)


def heading_behind(piece, heading, leaning, fault=None):
    """The heading of a ball behind a piece to which it came by a heading; a rocker turns its group in the list.

    A rocker of the fault's group leads as it leans, too, but doesn't turn any more.
    """
    if isinstance(piece, tuple):
        group, side = piece
        lean = leaning[group]
        if group != fault:
            leaning[group] = 1 - lean
        return LEFT if lean == side else RIGHT
    if piece == "s":
        return None
    # Whoever came from the right was heading to the left: a crossing leads on as a ball came.
    if piece == "x":
        return heading
    if piece == ".":
        return STRAIGHT
    return LEFT if piece == "<" else RIGHT


def come_down(board, leans, feeder, fault=None):
    """The column of the door by which a ball comes out, None of one that is stuck, and the leans behind."""
    columns, turned, behind = fallen(board, leans, feeder, fault)
    # A ball that is stuck comes to fewer places than there are rows and a door.
    column = columns[-1] if len(columns) > len(board[2]) else None
    return column, behind


def come_out(board, leans, feeder, fault=None):
    """The door by which a ball comes out, NO_DOOR of one that is stuck, and the leans behind."""
    column, behind = come_down(board, leans, feeder, fault)
    door = NO_DOOR if column is None else board[4][column]
    return door, behind
