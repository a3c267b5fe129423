"""Balls undone: what can have been ahead of a ball that came out."""

from ballrockers.boards import all_leans, are_leans, look_at_board, look_at_leans
from ballrockers.errors import NoNumber
from ballrockers.ways import come_down
from ballrockers.whole import is_tuple_within, is_whole_within


def undone(board, leans, column):
    """A tuple of all pairs (leans ahead, feeder), rising, whose ball comes out in the column and leaves these leans."""
    look_at_leans(board, leans)
    if not is_whole_within(column, 0, board[0] - 1):
        raise NoNumber()
    return tuple([pair for pair in all_pairs(board) if come_down(board, pair[0], pair[1]) == (column, leans)])


def undo_clash(board):
    """A tuple of the first two pairs whose balls come out in one column and leave the same leans; None: no two do."""
    look_at_board(board)
    first_pairs = {}
    clashes = []
    for leans, feeder in all_pairs(board):
        column, behind = come_down(board, leans, feeder)
        # A ball that is stuck comes out nowhere.
        if column is not None:
            first = first_pairs.setdefault((column, behind), (leans, feeder))
            if first != (leans, feeder):
                clashes.append((first, (leans, feeder)))
    return min(clashes, default=None)


def clash_holds(board, thing):
    """Whether the thing is two unlike pairs whose balls come out in one column and leave the same leans."""
    look_at_board(board)
    if not is_tuple_within(thing, 2, 2) or not all([is_pair(pair, board) for pair in thing]):
        return False
    one, other = thing
    column, behind = come_down(board, one[0], one[1])
    return one != other and column is not None and (column, behind) == come_down(board, other[0], other[1])


def all_pairs(board):
    """A list of all pairs (leans, feeder) of a board, rising."""
    return [(leans, feeder) for leans in all_leans(board[1]) for feeder in range(len(board[3]))]


def is_pair(thing, board):
    """Whether the thing is a pair of leans and a feeder's number of the board."""
    if not is_tuple_within(thing, 2, 2):
        return False
    leans, feeder = thing
    return are_leans(leans, board[1]) and is_whole_within(feeder, 0, len(board[3]) - 1)
