"""Whether some row of balls leads one to be stuck in a blind place."""

from ballrockers.balls import Balls
from ballrockers.boards import are_leans, is_some_row, look_at_leans
from ballrockers.search import goes_on_within, is_shortest_end, sought
from ballrockers.ways import NO_DOOR
from ballrockers.whole import is_from, is_tuple_within


def stuck(board, leans):
    """A tuple ("safe", table), or ("stuck", row, table) with a shortest row whose last ball is stuck."""
    look_at_leans(board, leans)
    row, rows = sought(leans, len(board[3]), free_balls(Balls(board)))
    if row is None:
        return "safe", tuple(sorted(rows))
    return "stuck", row, tuple(sorted([(place, len(rows[place])) for place in rows]))


def stuck_holds(board, leans, paper):
    """Whether the paper is such as stuck tells, and bears what it says."""
    look_at_leans(board, leans)
    if is_tuple_within(paper, 2, 2) and paper[0] == "safe":
        return safe_holds(board, leans, paper[1])
    if is_tuple_within(paper, 3, 3) and paper[0] == "stuck":
        return end_holds(board, leans, paper[1], paper[2])
    return False


def safe_holds(board, leans, table):
    """Whether the table bears that no ball is ever stuck."""
    if not isinstance(table, tuple) or not all([are_leans(thing, board[1]) for thing in table]):
        return False
    return goes_on_within(leans, table, len(board[3]), free_balls(Balls(board)))


def end_holds(board, leans, row, table):
    """Whether the row's last ball alone is stuck, and the table bears that no shorter row leads there."""
    feeders = len(board[3])
    if not is_some_row(row, feeders) or not isinstance(table, tuple):
        return False
    if not all([is_entry(thing, board[1]) for thing in table]):
        return False
    return is_shortest_end(leans, row, table, feeders, free_balls(Balls(board)))


def is_entry(thing, groups):
    """Whether the thing is leans of so many groups, and a number of balls."""
    return is_tuple_within(thing, 2, 2) and are_leans(thing[0], groups) and is_from(thing[1], 0)


def free_balls(balls):
    """A def that tells the leans behind a ball, None of a ball that is stuck."""
    def leans_behind(leans, feeder):
        door, behind = balls.fall(leans, feeder)
        return None if door == NO_DOOR else behind

    return leans_behind
