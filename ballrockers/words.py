"""The word of the doors: the names that they tell for ever, as a lead and a round."""

from ballrockers.ever import for_ever, for_ever_holds
from ballrockers.ways import come_out
from ballrockers.whole import is_just


def doors_word(board, stand):
    """A tuple (lead, round) of names: with the shortest round there is, and of these the shortest lead."""
    return word_of(board, for_ever(board, stand))


def word_holds(board, stand, paper, word):
    """Whether the paper is just what for_ever tells, and the word just what doors_word tells."""
    return for_ever_holds(board, stand, paper) and is_just(word, word_of(board, paper))


def word_of(board, paper):
    """What doors_word tells, by what for_ever tells."""
    stands, back = paper
    doors = [come_out(board, leans, feeder)[0] for leans, feeder in stands if feeder is not None]
    # A ball that is stuck tells no name.
    names = tuple([name for name, call in doors if name is not None])
    if back is None:
        return names, ()
    return drawn_in(names[:back], shortest_turn(names[back:]))


def shortest_turn(names):
    """The shortest names that, again and again, are these."""
    size = 1
    while len(names) % size != 0 or names[:size] * (len(names) // size) != names:
        size += 1
    return names[:size]


def drawn_in(lead, turn):
    """The lead without the names at its end that belong to the round, and the round that begins there."""
    while lead and lead[-1] == turn[-1]:
        lead = lead[:-1]
        turn = turn[-1:] + turn[:-1]
    return lead, turn
