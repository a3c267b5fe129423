"""Several balls on the board at once, let in one behind the other."""

from ballrockers.boards import is_row, look_at_board, look_at_leans
from ballrockers.errors import NoNumber, NoRow
from ballrockers.ways import NO_DOOR, STRAIGHT, heading_behind
from ballrockers.whole import is_whole_within

MOST_BALLS_AT_ONCE = 200
MOST_BEAT = 100


def at_once(board, leans, row, beat):
    """A tuple (names, leans behind) of a row of feeders' balls, one let in each time that so many beats are over."""
    look_at_leans(board, leans)
    rows, feeders, doors = board[2:]
    if not is_row(row, len(feeders), MOST_BALLS_AT_ONCE):
        raise NoRow()
    if not is_whole_within(beat, 1, MOST_BEAT):
        raise NoNumber()
    leaning = list(leans)
    columns = [feeders[feeder] for feeder in row]
    headings = [STRAIGHT for feeder in row]
    for now, ball, deep in passings(len(row), len(rows), beat):
        if headings[ball] is not None:
            headings[ball] = heading_behind(rows[deep][columns[ball]], headings[ball], leaning)
        # A ball that is stuck is taken out: it comes to no further place.
        if headings[ball] is not None:
            columns[ball] += headings[ball]
    comings = [NO_DOOR if heading is None else doors[column] for column, heading in zip(columns, headings)]
    return tuple([door[0] for door in comings]), tuple(leaning)


def passings(balls, rows, beat):
    """A list of (beat, ball, row) for each place that a ball goes through, in the order in which they do so."""
    # In one beat the ball that was let in first, so the one of the least number, goes first.
    return sorted([(ball * beat + deep, ball, deep) for ball in range(balls) for deep in range(rows)])


def is_quick(board):
    """Whether all rockers of each group stand in one row."""
    look_at_board(board)
    row_of_group = {}
    for row, places in enumerate(board[2]):
        for piece in places:
            if isinstance(piece, tuple) and row_of_group.setdefault(piece[0], row) != row:
                return False
    return True
