"""machine_board [24], word_board [25], and what they refuse [4]."""

import copy
import itertools
import random
import unittest

from ballrockers.boards import is_leans, look_at_board
from ballrockers.errors import NoMachine, NoWord
from ballrockers.ever import for_ever
from ballrockers.groups import least_groups
from ballrockers.machines import machine_board, word_board
from ballrockers.runs import called, told
from samples import kinds_changed, model_ball, number_kinds, others, refusal

SIZES = [(states, pairs) for states in range(1, 17) for pairs in range(1, 5) if states * pairs <= 16]


def machine_of(states, pairs, name, following):
    """The machine of so many states and pairs whose names and nexts two defs of state and pair tell."""
    return tuple(
        tuple((name(state, pair), following(state, pair)) for pair in range(pairs)) for state in range(states)
    )


def machines_of(states, pairs):
    """Machines of so many states and pairs, with nexts of all kinds."""
    dice = random.Random(states * 10 + pairs)
    nexts = [
        lambda state, pair: state,
        lambda state, pair: 0,
        lambda state, pair: states - 1,
        lambda state, pair: (state + 1) % states,
        lambda state, pair: (state + states - 1) % states,
        lambda state, pair: states - 1 - state,
        lambda state, pair: (state * (pair + 2) + pair) % states,
    ]
    nexts += [lambda state, pair: dice.randrange(states)] * 6
    names = [
        lambda state, pair: 0, lambda state, pair: 99, lambda state, pair: (state * pairs + pair) % 100,
        lambda state, pair: 99 - state - pair, lambda state, pair: dice.randint(0, 99),
    ]
    for at, following in enumerate(nexts):
        yield machine_of(states, pairs, names[at % len(names)], following)


class MachineBoard(unittest.TestCase):
    def does(self, machine):
        """The machine's board does what it says, by the model."""
        answer = machine_board(machine)
        self.assertIs(type(answer), tuple)
        board, states = answer
        self.assertIsNone(look_at_board(board))
        self.assertLessEqual(board[0], 40)
        self.assertLessEqual(len(board[2]), 60)
        self.assertEqual(board[1], least_groups(len(machine), 1))
        self.assertEqual(len(board[3]), len(machine[0]))
        self.assertEqual({call for name, call in board[4]}, {0})
        self.assertIs(type(states), tuple)
        self.assertEqual(len(states), len(machine))
        self.assertEqual(len(set(states)), len(machine))
        for leans, pairs in zip(states, machine):
            self.assertIs(is_leans(board, leans), True)
            for feeder, (name, following) in enumerate(pairs):
                self.assertEqual(model_ball(board, leans, feeder), (name, 0, states[following]))

    def test_all_sizes(self):
        self.assertEqual(len(SIZES), 16 + 8 + 5 + 4)
        for states, pairs in SIZES:
            for machine in machines_of(states, pairs):
                self.does(machine)

    def test_all_machines_of_two_states_and_two_pairs(self):
        for nexts in itertools.product(range(2), repeat=4):
            for names in itertools.product((3, 50), repeat=4):
                pairs = tuple(zip(names, nexts))
                self.does((pairs[:2], pairs[2:]))

    def test_all_nexts_of_three_and_four_states(self):
        for states in (3, 4):
            for nexts in itertools.product(range(states), repeat=states):
                self.does(tuple(((10 + state, following),) for state, following in enumerate(nexts)))

    def test_one_state(self):
        board, states = machine_board((((7, 0), (99, 0), (0, 0), (7, 0)),))
        self.assertEqual(states, ((),))
        self.assertEqual(told(board, (), (0, 1, 2, 3, 1)), ((7, 99, 0, 7, 99), ()))

    def test_rows_of_balls(self):
        dice = random.Random(91)
        for states, pairs in SIZES:
            machine = machine_of(states, pairs, lambda state, pair: dice.randint(0, 99),
                                 lambda state, pair: dice.randrange(states))
            board, leans = machine_board(machine)
            row = tuple(dice.randrange(pairs) for ball in range(200))
            state, names = states - 1, []
            for number in row:
                name, state = machine[state][number]
                names.append(name)
            self.assertEqual(told(board, leans[states - 1], row), (tuple(names), leans[state]))

    def test_the_same_each_time(self):
        machines = [machine for states, pairs in SIZES for machine in machines_of(states, pairs)]
        first = [machine_board(machine) for machine in machines]
        self.assertEqual([machine_board(machine) for machine in machines[::-1]][::-1], first)
        self.assertEqual(number_kinds(machine_board(machines[50])), number_kinds(first[50]))


class NoMachines(unittest.TestCase):
    machine = (((0, 1), (1, 0)), ((99, 0), (2, 1)))

    def is_none(self, thing):
        with self.subTest(thing=str(thing)[:60]):
            self.assertIs(refusal(machine_board, thing), NoMachine)

    def test_things_of_any_kind(self):
        for thing in others() + [0, 1, (), "machine"]:
            self.is_none(thing)
            self.is_none((thing,))
            self.is_none(((thing,),))
            self.is_none((((0, 0), thing),))
            self.is_none(self.machine + (thing,))
            self.is_none((thing,) + self.machine[1:])
            self.is_none((self.machine[0], (self.machine[1][0], thing)))

    def test_names_and_nexts_of_any_kind(self):
        for thing in others() + [(), (0,), (0, 0), "0", 100, -1]:
            self.is_none(((thing, 0),))
            self.is_none((((thing, 0),),))
            self.is_none((((0, thing),),))
            self.is_none((self.machine[0], ((99, 0), (thing, 1))))
            self.is_none((self.machine[0], ((99, 0), (2, thing))))

    def test_kinds(self):
        for changed in kinds_changed(self.machine):
            self.is_none(changed)

    def test_just_at_the_bounds(self):
        for states in range(0, 19):
            for pairs in range(0, 7):
                machine = (((0, 0),) * pairs,) * states
                held = 1 <= states <= 16 and 1 <= pairs <= 4 and states * pairs <= 16
                self.assertIs(refusal(machine_board, machine), None if held else NoMachine)
        for name in range(-2, 103):
            self.assertIs(refusal(machine_board, (((name, 0),),)), None if 0 <= name <= 99 else NoMachine)
        for states in range(1, 17):
            for following in range(-2, 19):
                machine = (((0, 0),),) * (states - 1) + (((0, following),),)
                self.assertIs(refusal(machine_board, machine), None if 0 <= following < states else NoMachine)

    def test_not_as_many_pairs_in_each(self):
        pair = (0, 0)
        for sizes in itertools.product(range(5), repeat=3):
            machine = tuple((pair,) * size for size in sizes)
            held = len(set(sizes)) == 1 and sizes[0] > 0
            self.assertIs(refusal(machine_board, machine), None if held else NoMachine)

    def test_parts_more_and_fewer(self):
        for part in ((), (0,), (0, 0, 0), ((0, 0),)):
            self.is_none(((part,),))
            self.is_none((self.machine[0], ((99, 0), part)))

    def test_great_things(self):
        self.is_none((((0, 0),),) * 6000)
        self.is_none((((0, 0),) * 6000,))
        self.is_none(((0,) * 19000,))

    def test_what_is_handed_in_stays(self):
        for thing in others() + [[[[0, 0]]], ([(0, 0)],), (([0, 0],),)]:
            before = copy.deepcopy(thing)
            refusal(machine_board, thing)
            refusal(machine_board, (thing,))
            refusal(word_board, thing)
            refusal(word_board, (thing,))
            self.assertEqual(thing, before)


class WordBoard(unittest.TestCase):
    def tells(self, word):
        """The word's board tells it again and again."""
        answer = word_board(word)
        self.assertIs(type(answer), tuple)
        board, leans = answer
        self.assertIsNone(look_at_board(board))
        self.assertIs(is_leans(board, leans), True)
        self.assertEqual(board[1], least_groups(len(word), 1))
        self.assertEqual(len(board[3]), 1)
        self.assertEqual({call for name, call in board[4]}, {0})
        at, names = leans, ()
        for ball in range(3 * len(word)):
            name, call, at = model_ball(board, at, 0)
            names += (name,)
        self.assertEqual(names, word * 3)
        # The leans come again, so do the names for ever.
        stands, back = for_ever(board, (leans, 0))
        self.assertEqual(called(board, (leans, 0), 2000)[0], (word * 2000)[:2000])
        self.assertEqual((stands[back], len(word) % (len(stands) - back)), ((leans, 0), 0))

    def test_all_lengths(self):
        dice = random.Random(92)
        for length in range(1, 17):
            self.tells(tuple(range(length)))
            self.tells((0,) * length)
            self.tells((99,) * length)
            self.tells((0,) * (length - 1) + (1,))
            for again in range(5):
                self.tells(tuple(dice.randint(0, 99) for name in range(length)))
                self.tells(tuple(dice.choice((0, 1)) for name in range(length)))

    def test_all_short_words(self):
        for length in range(1, 6):
            for word in itertools.product((4, 5), repeat=length):
                self.tells(word)

    def test_the_same_each_time(self):
        words = [tuple(range(length)) for length in range(1, 17)]
        first = [word_board(word) for word in words]
        self.assertEqual([word_board(word) for word in words[::-1]][::-1], first)


class NoWords(unittest.TestCase):
    def is_none(self, thing):
        with self.subTest(thing=str(thing)[:60]):
            self.assertIs(refusal(word_board, thing), NoWord)

    def test_things_of_any_kind(self):
        for thing in others() + ["word", ()]:
            self.is_none(thing)
            self.is_none((thing,))
            self.is_none((3, thing, 4))
        self.is_none(0)
        self.is_none(1)

    def test_just_at_the_bounds(self):
        for length in range(20):
            self.assertIs(refusal(word_board, (5,) * length), None if 1 <= length <= 16 else NoWord)
        for name in range(-2, 103):
            for word in ((name,), (0, name), (name, 0, 0)):
                self.assertIs(refusal(word_board, word), None if 0 <= name <= 99 else NoWord)

    def test_kinds(self):
        for word in ((0,), (1,), (1, 0, 1), (0,) * 16, (7, 1)):
            self.assertIsNone(refusal(word_board, word))
            for changed in kinds_changed(word):
                self.is_none(changed)

    def test_a_machine_is_none(self):
        self.is_none((((0, 0),),))
        self.is_none(((0, 0),))


if __name__ == "__main__":
    unittest.main()
