"""Boards, leans and stands: what is one, and what isn't."""

from ballrockers.errors import Fault, NoBoard, NoLeans, NoNumber, NoStand
from ballrockers.whole import are_wholes_within, is_tuple_within, is_whole_within

MOST_COLUMNS = 40
MOST_ROWS = 60
MOST_GROUPS = 8
MOST_FEEDERS = 4
MOST_NAME = 99


def look_at_board(board):
    """None of a board; else NoBoard, or behind that Fault with the first wrong place."""
    if not is_board_but_for_places(board):
        raise NoBoard()
    width, groups, rows = board[:3]
    for row, places in enumerate(rows):
        for column, piece in enumerate(places):
            if not may_stand(piece, column, width, groups):
                raise Fault(row, column)


def is_leans(board, thing):
    """Whether the thing is leans of the board."""
    look_at_board(board)
    return are_leans(thing, board[1])


def is_stand(board, thing):
    """Whether the thing is a stand of the board."""
    look_at_board(board)
    if not is_tuple_within(thing, 2, 2):
        return False
    leans, feeder = thing
    return are_leans(leans, board[1]) and is_feeder_or_none(feeder, len(board[3]))


def all_leans(groups):
    """A list of all leans of so many groups, rising."""
    if not is_whole_within(groups, 0, MOST_GROUPS):
        raise NoNumber()
    rising = [()]
    for group in range(groups):
        rising = [leans + (lean,) for leans in rising for lean in (0, 1)]
    return rising


def look_at_leans(board, thing):
    """Refuses what is no board, then what isn't leans of it."""
    if not is_leans(board, thing):
        raise NoLeans()


def look_at_stand(board, thing):
    """Refuses what is no board, then what is no stand of it."""
    if not is_stand(board, thing):
        raise NoStand()


def is_row(thing, feeders, most):
    """Whether the thing is a row of at most so many numbers of one of so many feeders."""
    return are_wholes_within(thing, 0, most, 0, feeders - 1)


def is_some_row(thing, feeders):
    """Whether the thing is a row of one or more numbers of one of so many feeders, however long."""
    return isinstance(thing, tuple) and are_wholes_within(thing, 1, len(thing), 0, feeders - 1)


def is_board_but_for_places(board):
    """Whether the thing is a board, whatever its places hold."""
    if not is_tuple_within(board, 5, 5):
        return False
    width, groups, rows, feeders, doors = board
    # The width and the feeders come first, as the rows and the doors are held against them.
    if not is_whole_within(width, 1, MOST_COLUMNS) or not is_whole_within(groups, 0, MOST_GROUPS):
        return False
    if not are_wholes_within(feeders, 1, MOST_FEEDERS, 0, width - 1):
        return False
    return are_rows(rows, width) and are_doors(doors, width, len(feeders))


def are_rows(thing, width):
    """Whether the thing is a tuple of rows of so many places, whatever they hold."""
    if not is_tuple_within(thing, 0, MOST_ROWS):
        return False
    for places in thing:
        if not is_tuple_within(places, width, width):
            return False
    return True


def are_doors(thing, width, feeders):
    """Whether the thing is a tuple of so many doors, of a board with so many feeders."""
    if not is_tuple_within(thing, width, width):
        return False
    for door in thing:
        if not is_door(door, feeders):
            return False
    return True


def is_door(thing, feeders):
    """Whether the thing is a door of a board with so many feeders."""
    if not is_tuple_within(thing, 2, 2):
        return False
    name, call = thing
    return is_whole_within(name, 0, MOST_NAME) and is_feeder_or_none(call, feeders)


def is_feeder_or_none(thing, feeders):
    """Whether the thing is the number of one of so many feeders, or None."""
    return thing is None or is_whole_within(thing, 0, feeders - 1)


def may_stand(piece, column, width, groups):
    """Whether the thing is a piece that may stand in this column of a board."""
    if piece == "x" or is_rocker(piece, groups):
        return 0 < column < width - 1
    if piece == "<":
        return column > 0
    if piece == ">":
        return column < width - 1
    return piece == "." or piece == "s"


def is_rocker(thing, groups):
    """Whether the thing is a rocker of one of so many groups."""
    if not is_tuple_within(thing, 2, 2):
        return False
    group, side = thing
    return is_whole_within(group, 0, groups - 1) and is_whole_within(side, 0, 1)


def are_leans(thing, groups):
    """Whether the thing is leans of so many groups."""
    return are_wholes_within(thing, groups, groups, 0, 1)
