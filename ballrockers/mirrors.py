"""Boards seen from behind."""

from ballrockers.boards import look_at_board

MIRRORED_RAMPS = {"<": ">", ">": "<"}


def mirrored(board):
    """The board seen from behind: its first column is the last one, and so on."""
    look_at_board(board)
    width, groups, rows, feeders, doors = board
    all_rows = tuple([tuple([mirrored_piece(piece) for piece in places[::-1]]) for places in rows])
    columns = tuple([width - 1 - column for column in feeders])
    return width, groups, all_rows, columns, doors[::-1]


def mirrored_piece(piece):
    """The piece seen from behind."""
    if isinstance(piece, tuple):
        group, side = piece
        return group, 1 - side
    return MIRRORED_RAMPS.get(piece, piece)
