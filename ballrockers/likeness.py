"""Whether two boards tell the same names by every row of balls, or by which row they part."""

from ballrockers.balls import Balls
from ballrockers.boards import are_leans, is_some_row, look_at_board
from ballrockers.errors import NoFit, NoLeans, TooGreat
from ballrockers.search import goes_on_within, is_shortest_end, sought
from ballrockers.whole import is_from, is_tuple_within

MOST_GROUPS_ALIKE = 5


def alike(board, leans, other, other_leans):
    """A tuple ("alike", table), or ("parted", row, table) with a shortest row whose last balls' names are unlike."""
    look_at_both(board, leans, other, other_leans)
    if not have_as_many_feeders(board, other):
        raise NoFit()
    if not are_small(board, other):
        raise TooGreat()
    row, rows = sought((leans, other_leans), len(board[3]), like_balls(Balls(board), Balls(other)))
    if row is None:
        return "alike", tuple(sorted(rows))
    return "parted", row, tuple(sorted([pair + (len(rows[pair]),) for pair in rows]))


def alike_holds(board, leans, other, other_leans, paper):
    """Whether the paper is such as alike tells, and bears what it says."""
    look_at_both(board, leans, other, other_leans)
    if not have_as_many_feeders(board, other) or not are_small(board, other):
        return False
    start = (leans, other_leans)
    if is_tuple_within(paper, 2, 2) and paper[0] == "alike":
        return likeness_holds(Balls(board), Balls(other), start, paper[1])
    if is_tuple_within(paper, 3, 3) and paper[0] == "parted":
        return parting_holds(Balls(board), Balls(other), start, paper[1], paper[2])
    return False


def look_at_both(board, leans, other, other_leans):
    """Refuses what is no board, of the one, then of the other; then what isn't leans of them."""
    look_at_board(board)
    look_at_board(other)
    if not are_leans(leans, board[1]) or not are_leans(other_leans, other[1]):
        raise NoLeans()


def have_as_many_feeders(board, other):
    """Whether both have as many feeders."""
    return len(board[3]) == len(other[3])


def are_small(board, other):
    """Whether neither has more groups than may be gone through in pairs."""
    return max(board[1], other[1]) <= MOST_GROUPS_ALIKE


def likeness_holds(balls, other_balls, start, table):
    """Whether the table bears that both boards' balls tell the same names by every row."""
    groups, other_groups = balls.board[1], other_balls.board[1]
    if not isinstance(table, tuple) or not all([is_leans_pair(thing, groups, other_groups) for thing in table]):
        return False
    return goes_on_within(start, table, len(balls.board[3]), like_balls(balls, other_balls))


def parting_holds(balls, other_balls, start, row, table):
    """Whether the row's last balls alone tell unlike names, and the table bears that no shorter row parts them."""
    feeders = len(balls.board[3])
    if not is_some_row(row, feeders) or not isinstance(table, tuple):
        return False
    if not all([is_entry(thing, balls.board[1], other_balls.board[1]) for thing in table]):
        return False
    entries = [((leans, other_leans), many) for leans, other_leans, many in table]
    return is_shortest_end(start, row, entries, feeders, like_balls(balls, other_balls))


def is_leans_pair(thing, groups, other_groups):
    """Whether the thing is a tuple of leans of so many groups, and leans of so many."""
    return is_tuple_within(thing, 2, 2) and are_leans(thing[0], groups) and are_leans(thing[1], other_groups)


def is_entry(thing, groups, other_groups):
    """Whether the thing is a tuple of leans of so many groups, leans of so many, and a number of balls."""
    return is_tuple_within(thing, 3, 3) and is_leans_pair(thing[:2], groups, other_groups) and is_from(thing[2], 0)


def like_balls(balls, other_balls):
    """A def that tells the pair of leans behind both balls of a feeder, None where their names are unlike."""
    def pair_behind(pair, feeder):
        door, behind = balls.fall(pair[0], feeder)
        other_door, other_behind = other_balls.fall(pair[1], feeder)
        return (behind, other_behind) if door[0] == other_door[0] else None

    return pair_behind
