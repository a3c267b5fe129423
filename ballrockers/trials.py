"""Rows of balls that show which group of rockers doesn't turn any more, as far as any row does."""

from ballrockers.balls import Balls, told_by
from ballrockers.boards import is_row, look_at_leans
from ballrockers.errors import TooGreat
from ballrockers.faults import faults_of, is_fault
from ballrockers.likeness import like_balls, likeness_holds
from ballrockers.runs import MOST_BALLS
from ballrockers.search import sought
from ballrockers.whole import is_tuple_within

MOST_GROUPS_TRIED = 4


def trials(board, leans):
    """A tuple (rows, likes): rows that part all faults that any row parts, and those two by two that none parts."""
    look_at_leans(board, leans)
    if board[1] > MOST_GROUPS_TRIED:
        raise TooGreat()
    balls = balls_by_fault(board)
    parting_rows = {}
    likes = []
    for one, other in two_faults(board[1]):
        row, rows = sought((leans, leans), len(board[3]), like_balls(balls[one], balls[other]))
        if row is None:
            likes.append((one, other, tuple(sorted(rows))))
        else:
            parting_rows[row] = True
    return tuple(parting_rows), tuple(likes)


def trials_holds(board, leans, paper):
    """Whether the paper is such as trials tells, and bears what it says."""
    look_at_leans(board, leans)
    if board[1] > MOST_GROUPS_TRIED or not is_tuple_within(paper, 2, 2):
        return False
    rows, likes = paper
    if not isinstance(rows, tuple) or not all([is_row(row, len(board[3]), MOST_BALLS) for row in rows]):
        return False
    balls = balls_by_fault(board)
    left = two_faults_but_for(likes, balls, leans)
    if left is None:
        return False
    names = {fault: [told_by(balls[fault], leans, row)[0] for row in rows] for fault in balls}
    return all([names[one] != names[other] for one, other in left])


def two_faults_but_for(likes, balls, leans):
    """A list of each two faults that aren't in likes; None: likes are not such, or one of their tables doesn't hold."""
    if not isinstance(likes, tuple):
        return None
    groups = len(leans)
    left = {pair: True for pair in two_faults(groups)}
    for like in likes:
        if not is_tuple_within(like, 3, 3) or not is_fault(like[0], groups) or not is_fault(like[1], groups):
            return None
        one, other, table = like
        # Two faults that came already, or that come the other one first, aren't left.
        if (one, other) not in left or not likeness_holds(balls[one], balls[other], (leans, leans), table):
            return None
        del left[(one, other)]
    return list(left)


def balls_by_fault(board):
    """A dict of the balls of the board with each fault."""
    return {fault: Balls(board, fault) for fault in faults_of(board[1])}


def two_faults(groups):
    """A list of each two faults of a board with so many groups, one ahead of the other, by the one, then the other."""
    faults = faults_of(groups)
    return [(one, other) for at, one in enumerate(faults) for other in faults[at + 1:]]
