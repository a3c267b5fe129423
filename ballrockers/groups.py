"""How many groups a board needs at least."""

from ballrockers.boards import MOST_FEEDERS
from ballrockers.errors import NoNumber
from ballrockers.whole import is_whole_within

MOST_STANDS = 10 ** 9


def least_groups(stands, feeders):
    """The least number of groups by which a board with so many feeders has so many stands or more."""
    if not is_whole_within(stands, 1, MOST_STANDS) or not is_whole_within(feeders, 1, MOST_FEEDERS):
        raise NoNumber()
    groups = 0
    reached = feeders
    while reached < stands:
        groups += 1
        reached *= 2
    return groups
