"""What a board does for ever, as its doors call the balls: a lead of stands, and then an end or a round."""

from ballrockers.boards import look_at_stand
from ballrockers.ways import come_out
from ballrockers.whole import is_just, is_tuple_within


def for_ever(board, stand):
    """A tuple (stands, back): unlike stands, ball by ball; back is the number of that to which the last one leads."""
    look_at_stand(board, stand)
    numbers = {}
    coming = stand
    while coming is not None and coming not in numbers:
        numbers[coming] = len(numbers)
        coming = stand_behind(board, coming)
    back = None if coming is None else numbers[coming]
    return tuple(numbers), back


def for_ever_holds(board, stand, paper):
    """Whether the paper is just what for_ever tells."""
    look_at_stand(board, stand)
    if not is_tuple_within(paper, 2, 2) or not isinstance(paper[0], tuple):
        return False
    stands, back = paper
    numbers = {}
    coming = stand
    for thing in stands:
        # None, behind the last one, and a stand that came before are none to be told next.
        if coming is None or coming in numbers or not is_just(thing, coming):
            return False
        numbers[coming] = len(numbers)
        coming = stand_behind(board, coming)
    if coming is None:
        return back is None
    return coming in numbers and is_just(back, numbers[coming])


def stand_behind(board, stand):
    """The stand to which one ball of the stand leads, None of one without a feeder."""
    leans, feeder = stand
    if feeder is None:
        return None
    door, behind = come_out(board, leans, feeder)
    return behind, door[1]
