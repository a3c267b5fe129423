"""Boards and leans as texts."""

from ballrockers.boards import MOST_GROUPS, look_at_board
from ballrockers.errors import BoardError, NoText

DIGITS = "0123456789"
MOST_DIGITS = 4

# The signs of rockers of side 0, then of side 1, by their groups.
ROCKER_SIGNS = ("abcdefgh", "ABCDEFGH")

# Leans of no group.
NO_BITS = "-"


def board_shown(board):
    """A text of lines that shows the board."""
    look_at_board(board)
    width, groups, rows, feeders, doors = board
    lines = [f"board {width} {groups}"]
    lines += ["".join([sign_of(piece) for piece in places]) for places in rows]
    lines.append(" ".join(["feeders"] + [str(column) for column in feeders]))
    lines.append(" ".join(["doors"] + [door_shown(name, call) for name, call in doors]))
    return "".join([line + "\n" for line in lines])


def board_read(text):
    """The board that is shown by the text."""
    board = board_of_lines(text.split("\n")) if isinstance(text, str) else None
    try:
        shown = board_shown(board)
    except BoardError:
        raise NoText() from None
    # Each board is shown by one text alone: so whatever was read too kindly is seen here.
    if shown != text:
        raise NoText()
    return board


def leans_shown(leans):
    """The leans' digits, one behind the other."""
    return "".join([str(lean) for lean in leans]) if leans else NO_BITS


def leans_read(text):
    """The leans that are shown by a text; None: it shows none."""
    if text == NO_BITS:
        return ()
    if not 1 <= len(text) <= MOST_GROUPS or not is_of_signs(text, "01"):
        return None
    return tuple([int(sign) for sign in text])


def number_read(text):
    """The number that a text shows by at most four digits, no nought ahead; None: it shows none."""
    if not 1 <= len(text) <= MOST_DIGITS or not is_of_signs(text, DIGITS):
        return None
    if len(text) > 1 and text.startswith("0"):
        return None
    return int(text)


def is_of_signs(text, signs):
    """Whether each sign of the text is one of these."""
    return all([sign in signs for sign in text])


def sign_of(piece):
    """The sign that shows a piece."""
    if not isinstance(piece, tuple):
        return piece
    group, side = piece
    return ROCKER_SIGNS[side][group]


def door_shown(name, call):
    """The word that shows a door."""
    return f"{name}!" if call is None else f"{name}>{call}"


def board_of_lines(lines):
    """What the lines show, the last one what is behind the last line feed: a board, if they are one's."""
    words = lines[0].split(" ")
    if len(lines) < 4 or len(words) != 3:
        return None
    rows = tuple([tuple([piece_of(sign) for sign in line]) for line in lines[1:-3]])
    feeders = tuple([number_read(word) for word in lines[-3].split(" ")[1:]])
    doors = tuple([door_of(word) for word in lines[-2].split(" ")[1:]])
    return number_read(words[1]), number_read(words[2]), rows, feeders, doors


def piece_of(sign):
    """The piece that a sign shows; of a sign that shows none itself, which is no piece."""
    for side, signs in enumerate(ROCKER_SIGNS):
        if sign in signs:
            return signs.index(sign), side
    return sign


def door_of(word):
    """The door that a word shows, if it shows one."""
    name, between, call = word.partition(">")
    if between == ">":
        return number_read(name), number_read(call)
    return number_read(word[:-1]), None
