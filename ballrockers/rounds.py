"""All rounds of a board's stands, and how many stands come to each."""

from ballrockers.boards import look_at_board
from ballrockers.errors import TooGreat
from ballrockers.ever import stand_behind
from ballrockers.undoing import all_pairs

MOST_GROUPS_ROUND = 6


def rounds(board):
    """A tuple of all rounds, each a tuple of stands from the least one on, by their first stands."""
    following = stands_behind(board)
    return tuple([round_from(first, following) for first in first_stands(homes_of(following))])


def counted(board):
    """A tuple of a tuple of how many stands with a feeder come to each round, and of how many come to an end."""
    homes = homes_of(stands_behind(board))
    ends = list(homes.values())
    return tuple([ends.count(first) for first in first_stands(homes)]), ends.count(None)


def stands_behind(board):
    """A dict of the stand to which one ball of each stand with a feeder leads, these rising."""
    look_at_board(board)
    if board[1] > MOST_GROUPS_ROUND:
        raise TooGreat()
    return {stand: stand_behind(board, stand) for stand in all_pairs(board)}


def homes_of(following):
    """A dict of the first stand of the round to which each stand comes, None of one that comes to an end."""
    homes = {}
    for start in following:
        trail = {}
        stand = start
        while stand in following and stand not in homes and stand not in trail:
            trail[stand] = True
            stand = following[stand]
        # Back on its own trail it has gone through a round; a stand without a feeder has no home.
        home = min(round_from(stand, following)) if stand in trail else homes.get(stand)
        for passed in trail:
            homes[passed] = home
    return homes


def round_from(first, following):
    """A tuple of the stands of a round, from one of them on."""
    stands = [first]
    while following[stands[-1]] != first:
        stands.append(following[stands[-1]])
    return tuple(stands)


def first_stands(homes):
    """A list of the first stands of all rounds, rising."""
    return sorted({home for home in homes.values() if home is not None})
