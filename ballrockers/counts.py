"""What any number of balls comes to, however great, by the lead and the round of stands."""

from ballrockers.boards import look_at_stand
from ballrockers.errors import NoNumber
from ballrockers.ever import for_ever, for_ever_holds
from ballrockers.ways import come_out
from ballrockers.whole import is_just, is_whole_within

MOST_COUNTED_BALLS = 10 ** 50


def after(board, stand, number):
    """A tuple (stand behind, pairs of a name and how many balls told it, how many balls came) of so many balls."""
    look_at_stand(board, stand)
    if not is_countable(number):
        raise NoNumber()
    return reckoned(board, for_ever(board, stand), number)


def after_holds(board, stand, number, paper, thing):
    """Whether the paper is just what for_ever tells, and the thing just what after tells of such a number."""
    if not for_ever_holds(board, stand, paper) or not is_countable(number):
        return False
    return is_just(thing, reckoned(board, paper, number))


def is_countable(thing):
    """Whether the thing is a number of balls that after takes."""
    return is_whole_within(thing, 0, MOST_COUNTED_BALLS)


def reckoned(board, paper, number):
    """What after tells, by what for_ever tells."""
    stands, back = paper
    times, last = times_of_stands(len(stands), back, number)
    counts = {}
    for (leans, feeder), many in zip(stands, times):
        if many > 0:
            door, behind = come_out(board, leans, feeder)
            counts[door[0]] = counts.get(door[0], 0) + many
    # A ball that is stuck told no name.
    pairs = [(name, counts[name]) for name in counts if name is not None]
    return stands[last], tuple(sorted(pairs)), sum(times)


def times_of_stands(stands, back, number):
    """A list of how many of so many balls fall from each of so many stands, and the number of the stand behind."""
    if back is None or number < stands:
        # From the last stand of balls that end none falls.
        balls = min(number, stands - 1)
        return [1] * balls + [0] * (stands - balls), balls
    rounds, rest = divmod(number - back, stands - back)
    return [1] * back + [rounds + 1] * rest + [rounds] * (stands - back - rest), back + rest
