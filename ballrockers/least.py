"""Least machines: what a board tells to rows of balls, by as few states as can be."""

from ballrockers.balls import Balls
from ballrockers.blind import free_balls
from ballrockers.boards import are_leans, is_row, look_at_leans
from ballrockers.errors import NoMachine, NoNumber, NoRow, TooGreat
from ballrockers.machines import is_machine, machine_board
from ballrockers.runs import MOST_BALLS
from ballrockers.search import goes_on_within, sought
from ballrockers.whole import is_tuple_within, is_whole_within

MOST_GROUPS_LEAST = 5


def machine_told(machine, state, row):
    """A tuple (names, state behind) of what a machine tells to a row of pairs' numbers."""
    if not is_machine(machine):
        raise NoMachine()
    if not is_state_number(state, machine):
        raise NoNumber()
    if not is_machine_row(row, machine):
        raise NoRow()
    return answered(machine, state, row)


def least_machine(board, leans):
    """A tuple (machine, table, reach, parts): the least machine that tells what the board tells, and what bears it."""
    look_at_leans(board, leans)
    if board[1] > MOST_GROUPS_LEAST:
        raise TooGreat()
    balls = Balls(board)
    end, rows = sought(leans, len(board[3]), free_balls(balls))
    if end is not None:
        raise NoMachine()
    states = states_of(rows, balls)
    firsts = first_leans(states)
    machine = tuple([pairs_of(place, states, balls) for place in firsts])
    # Too many states, or states and feeders, are no machine.
    if not is_machine(machine):
        raise NoMachine()
    reach = tuple([rows[place] for place in firsts])
    return machine, tuple(sorted(states.items())), reach, parts_of(machine)


def least_holds(board, leans, paper):
    """Whether the paper is such as least_machine tells, and bears that no machine with fewer states tells the same."""
    look_at_leans(board, leans)
    if board[1] > MOST_GROUPS_LEAST or not is_tuple_within(paper, 4, 4):
        return False
    machine, table, reach, parts = paper
    if not is_machine(machine) or len(machine[0]) != len(board[3]):
        return False
    return is_told_so(board, leans, machine, table) and is_reached(machine, reach) and are_parted(machine, parts)


def remade(board, leans):
    """A tuple (board, leans): a board that is alike from these leans on, with as few groups as can be."""
    made, states = machine_board(least_machine(board, leans)[0])
    return made, states[0]


def is_state_number(thing, machine):
    """Whether the thing is the number of one of the machine's states."""
    return is_whole_within(thing, 0, len(machine) - 1)


def is_machine_row(thing, machine):
    """Whether the thing is a row of numbers of the machine's pairs."""
    return is_row(thing, len(machine[0]), MOST_BALLS)


def answered(machine, state, row):
    """What machine_told tells, of what was looked at."""
    names = []
    for number in row:
        name, state = machine[state][number]
        names.append(name)
    return tuple(names), state


def states_of(places, balls):
    """A dict of the state of each of the places, leans in the order in which they are come to first.

    Leans are of one state where they tell the same names by every row; states are numbered as they come first.
    """
    states = {place: 0 for place in places}
    finer = parted_once_more(states, balls)
    while finer != states:
        states, finer = finer, parted_once_more(finer, balls)
    return states


def parted_once_more(states, balls):
    """The states, parted where one ball tells unlike names or leads to unlike states."""
    numbers = {}
    finer = {}
    for place in states:
        finer[place] = numbers.setdefault((states[place], pairs_of(place, states, balls)), len(numbers))
    return finer


def pairs_of(place, states, balls):
    """A tuple of the name that each feeder's ball tells, and the state to which it leads."""
    falls = [balls.fall(place, feeder) for feeder in range(len(balls.board[3]))]
    return tuple([(door[0], states[behind]) for door, behind in falls])


def first_leans(states):
    """A list of the first leans of each state."""
    firsts = {}
    for place in states:
        firsts.setdefault(states[place], place)
    return list(firsts.values())


def two_states(machine):
    """A list of each two states, one below the other, by the one, then the other."""
    return [(one, other) for one in range(len(machine)) for other in range(one + 1, len(machine))]


def parts_of(machine):
    """A tuple of each two states of a least machine, and a shortest row that parts them."""
    parts = []
    for one, other in two_states(machine):
        row, rows = sought((one, other), len(machine[0]), like_states(machine))
        parts.append((one, other, row))
    return tuple(parts)


def like_states(machine):
    """A def that tells the states behind two states by a number, None where the names are unlike."""
    def states_behind(states, number):
        name, behind = machine[states[0]][number]
        other_name, other_behind = machine[states[1]][number]
        return (behind, other_behind) if name == other_name else None

    return states_behind


def is_told_so(board, leans, machine, table):
    """Whether the table bears that the machine from state 0 on tells what the board tells from these leans on."""
    if not isinstance(table, tuple) or not all([is_entry(thing, board[1], machine) for thing in table]):
        return False
    return goes_on_within((leans, 0), table, len(board[3]), like_pairs(Balls(board), machine))


def is_entry(thing, groups, machine):
    """Whether the thing is leans of so many groups, and the number of a state."""
    return is_tuple_within(thing, 2, 2) and are_leans(thing[0], groups) and is_state_number(thing[1], machine)


def like_pairs(balls, machine):
    """A def that tells the leans and the state behind a ball, None where the machine's name is another one."""
    def place_behind(place, feeder):
        leans, state = place
        door, behind = balls.fall(leans, feeder)
        name, following = machine[state][feeder]
        # A ball that is stuck tells None, which is no name of a machine's.
        return (behind, following) if door[0] == name else None

    return place_behind


def is_reached(machine, reach):
    """Whether the reach is a row for each state that leads the machine from state 0 to it."""
    if not is_tuple_within(reach, len(machine), len(machine)):
        return False
    if not all([is_machine_row(row, machine) for row in reach]):
        return False
    return all([answered(machine, 0, row)[1] == state for state, row in enumerate(reach)])


def are_parted(machine, parts):
    """Whether the parts are states two by two with rows that part them, and each two states are among them."""
    if not isinstance(parts, tuple) or not all([is_part(thing, machine) for thing in parts]):
        return False
    found = {(one, other): True for one, other, row in parts}
    return all([pair in found for pair in two_states(machine)])


def is_part(thing, machine):
    """Whether the thing is two states, one below the other, and a row that parts them."""
    if not is_tuple_within(thing, 3, 3):
        return False
    one, other, row = thing
    if not is_state_number(one, machine) or not is_state_number(other, machine) or not is_machine_row(row, machine):
        return False
    return one < other and answered(machine, one, row)[0] != answered(machine, other, row)[0]
