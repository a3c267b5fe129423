"""Boards that do what a machine's table says, or tell a word again and again."""

from ballrockers.boards import MOST_FEEDERS, MOST_NAME
from ballrockers.errors import NoMachine, NoWord
from ballrockers.groups import least_groups
from ballrockers.making import binary, row_of, turning_rows
from ballrockers.ways import fallen
from ballrockers.whole import are_wholes_within, is_tuple_within, is_whole_within

MOST_STATES = 16
MOST_TOGETHER = 16

# The door of a column that no ball comes to; each other one calls feeder 0, too.
PLAIN_DOOR = (0, 0)


def machine_board(machine):
    """A tuple (board, states): a board that does what the machine says, and the leans of each state."""
    if not is_machine(machine):
        raise NoMachine()
    parting = parting_board(len(machine), len(machine[0]))
    width, groups, rows, feeders = parting[:4]
    states = tuple([binary(state, groups) for state in range(len(machine))])
    doors = [PLAIN_DOOR for column in range(width)]
    rockers = [{} for group in range(groups)]
    for leans, pairs in zip(states, machine):
        for feeder, (name, following) in enumerate(pairs):
            columns, turned, behind = fallen(parting, leans, feeder)
            column = columns[-1]
            doors[column] = (name, 0)
            for group, lean in enumerate(behind):
                # How the group leans is known in this column: a rocker of the other side leads to the right.
                if lean != states[following][group]:
                    rockers[group][column] = (group, 1 - lean)
    for found in rockers:
        rows += tuple(turning_rows(width, found))
    return (width, groups, rows, feeders, tuple(doors)), states


def word_board(word):
    """A tuple (board, leans): from these leans on the doors' names are the word's, again and again."""
    if not are_wholes_within(word, 1, MOST_STATES, 0, MOST_NAME):
        raise NoWord()
    board, states = machine_board(tuple([((name, (at + 1) % len(word)),) for at, name in enumerate(word)]))
    return board, states[0]


def is_machine(thing):
    """Whether the thing is a machine."""
    if not is_tuple_within(thing, 1, MOST_STATES) or not is_tuple_within(thing[0], 1, MOST_FEEDERS):
        return False
    states = len(thing)
    pairs = len(thing[0])
    return states * pairs <= MOST_TOGETHER and all([is_state(state, pairs, states) for state in thing])


def is_state(thing, pairs, states):
    """Whether the thing is a state of so many pairs, of a machine of so many states."""
    return is_tuple_within(thing, pairs, pairs) and all([is_pair(pair, states) for pair in thing])


def is_pair(thing, states):
    """Whether the thing is a pair of a name and a state's number, of a machine of so many states."""
    if not is_tuple_within(thing, 2, 2):
        return False
    name, following = thing
    return is_whole_within(name, 0, MOST_NAME) and is_whole_within(following, 0, states - 1)


def parting_board(states, feeders):
    """A board whose balls come out by a column of their own for each feeder and state."""
    groups = least_groups(states, 1)
    width = 2 * states * feeders + 1
    # Between two such columns one is free, for rockers to lead to.
    lanes = [[2 * (feeder * states + state) + 1 for state in range(states)] for feeder in range(feeders)]
    rows = []
    # From the foot to the top: two columns of states that are unlike in the group alone come of one.
    for group in range(groups):
        forks = [forks_of(columns) for columns in lanes]
        rows = fork_rows(width, group, [fork for found in forks for fork in found]) + rows
        lanes = [joined_columns(columns, found) for columns, found in zip(lanes, forks)]
    feeder_columns = tuple([columns[0] for columns in lanes])
    return width, groups, tuple(rows), feeder_columns, (PLAIN_DOOR,) * width


def forks_of(columns):
    """A list of (left, middle, right) for each two columns, the first and the second, the third and the fourth ..."""
    return [(left, (left + right) // 2, right) for left, right in zip(columns[::2], columns[1::2])]


def joined_columns(columns, forks):
    """The columns above the forks; one that is left over goes on straight."""
    return [middle for left, middle, right in forks] + columns[2 * len(forks):]


def fork_rows(width, group, forks):
    """Rows that lead a ball in the middle of each fork by a rocker to its left or right, as the group leans."""
    rows = [row_of(width, {middle: (group, 0) for left, middle, right in forks})]
    for step in range(1, max([max(middle - left, right - middle) for left, middle, right in forks])):
        ramps = {middle - step: "<" for left, middle, right in forks if middle - step > left}
        ramps.update({middle + step: ">" for left, middle, right in forks if middle + step < right})
        rows.append(row_of(width, ramps))
    return rows
