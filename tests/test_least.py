"""machine_told [35], least_machine, least_holds [36], remade [37], and what they refuse [2], [3], [4], [8]."""

import copy
import itertools
import random
import unittest

from ballrockers.boards import look_at_board
from ballrockers.counters import counter
from ballrockers.errors import Fault, NoBoard, NoLeans, NoMachine, NoNumber, NoRow, TooGreat
from ballrockers.groups import least_groups
from ballrockers.least import least_holds, least_machine, machine_told, remade
from ballrockers.likeness import alike
from ballrockers.machines import machine_board, word_board
from ballrockers.runs import told
from samples import (
    FAULTY, FAULTY_AT, LEAST, MIXED, chain, changed_papers, drawn, kinds_changed, model_ball, model_is_leans, no_boards,
    no_leans, no_numbers, no_rows, number_kinds, others, plain_board, refusal, rolled_board, rolled_leans,
    rolled_turning_board, with_part, with_place, without_blind_places,
)

# Pair 0 tells the state, pair 1 goes on to the next of three.
MACHINE = (((10, 0), (5, 1)), ((11, 1), (5, 2)), ((12, 2), (6, 0)))


def model_machine_told(machine, state, row):
    """What machine_told tells."""
    names = ()
    for number in row:
        pair = machine[state][number]
        names, state = names + (pair[0],), pair[1]
    return (names, state)


def leans_come_to(board, leans):
    """All leans that rows come to, None where a ball is stuck, by the model."""
    found, left = {leans}, [leans]
    while left:
        at = left.pop()
        for feeder in range(len(board[3])):
            name, call, behind = model_ball(board, at, feeder)
            if name is None:
                return None
            if behind not in found:
                found.add(behind)
                left.append(behind)
    return sorted(found)


def like_leans(board, leans):
    """A dict of the first leans that are alike, by alike, to each that rows come to."""
    firsts, found = [], {}
    for at in leans_come_to(board, leans):
        same = [first for first in firsts if alike(board, at, board, first)[0] == "alike"]
        found[at] = same[0] if same else at
        if not same:
            firsts.append(at)
    return found


def model_least(board, leans):
    """machine, table and reach of least_machine by going through rows; None where there is none."""
    if leans_come_to(board, leans) is None:
        return None
    same = like_leans(board, leans)
    many = len(set(same.values()))
    feeders = len(board[3])
    if many > 16 or many * feeders > 16:
        return None
    numbers, reach = {}, []
    for length in itertools.count():
        for row in itertools.product(range(feeders), repeat=length):
            at = same[told(board, leans, row)[1]]
            if at not in numbers:
                numbers[at] = len(numbers)
                reach.append(row)
        if len(numbers) == many:
            break
    machine = tuple(
        tuple((model_ball(board, at, feeder)[0], numbers[same[model_ball(board, at, feeder)[2]]]) for feeder in range(feeders))
        for at in numbers
    )
    return machine, tuple(sorted((at, numbers[same[at]]) for at in same)), tuple(reach)


def shortest_part(machine, one, other):
    """How many numbers the shortest row has that parts two states, by all rows."""
    for length in itertools.count(1):
        for row in itertools.product(range(len(machine[0])), repeat=length):
            if model_machine_told(machine, one, row)[0] != model_machine_told(machine, other, row)[0]:
                return length


def is_row_of(thing, numbers):
    return type(thing) is tuple and len(thing) <= 2000 and all(type(part) is int and part in range(numbers) for part in thing)


def is_machine(thing):
    """[24] word by word."""
    if type(thing) is not tuple or not 1 <= len(thing) <= 16 or any(type(state) is not tuple for state in thing):
        return False
    sizes = {len(state) for state in thing}
    if len(sizes) != 1 or not 1 <= min(sizes) <= 4 or len(thing) * min(sizes) > 16:
        return False
    pairs = [pair for state in thing for pair in state]
    return all(
        type(pair) is tuple and len(pair) == 2 and type(pair[0]) is int and type(pair[1]) is int
        and 0 <= pair[0] <= 99 and 0 <= pair[1] < len(thing) for pair in pairs
    )


def model_holds(board, leans, paper):
    """[36] word by word: whether the paper holds."""
    if board[1] > 5 or type(paper) is not tuple or len(paper) != 4:
        return False
    machine, table, reach, parts = paper
    feeders = len(board[3])
    if not is_machine(machine) or len(machine[0]) != feeders:
        return False
    states = range(len(machine))
    if any(type(thing) is not tuple for thing in (table, reach, parts)):
        return False
    for entry in table:
        if type(entry) is not tuple or len(entry) != 2 or not model_is_leans(board, entry[0]):
            return False
        if type(entry[1]) is not int or entry[1] not in states:
            return False
    for at, state in set(table):
        for feeder in range(feeders):
            name, call, behind = model_ball(board, at, feeder)
            if name != machine[state][feeder][0] or (behind, machine[state][feeder][1]) not in table:
                return False
    if (leans, 0) not in table or len(reach) != len(machine):
        return False
    for state, row in enumerate(reach):
        if not is_row_of(row, feeders) or model_machine_told(machine, 0, row)[1] != state:
            return False
    parted = set()
    for part in parts:
        if type(part) is not tuple or len(part) != 3 or not all(type(at) is int and at in states for at in part[:2]):
            return False
        one, other, row = part
        if not one < other or not is_row_of(row, feeders):
            return False
        if model_machine_told(machine, one, row)[0] == model_machine_told(machine, other, row)[0]:
            return False
        parted.add((one, other))
    return parted == set(itertools.combinations(states, 2))


def each_asked(seed, many=150):
    """Boards and leans, some of which have a least machine."""
    dice = random.Random(seed)
    yield LEAST, ()
    yield MIXED, (0, 1)
    for again in range(many):
        feeders = dice.randint(1, 4) if again % 3 == 0 else dice.randint(1, 2)
        groups = dice.randint(0, 5) if feeders == 1 else dice.randint(0, 3)
        board = rolled_turning_board(dice, groups, feeders, again % 5 == 0)
        names = dice.choice(((0,), (0, 0, 0, 1), (0, 1, 2)))
        board = with_part(board, 4, tuple((dice.choice(names), call) for name, call in board[4]))
        yield board, rolled_leans(dice, board)


def each_told(seed, many=150):
    """Boards and leans that have a least machine, and what is told of them."""
    for board, leans in each_asked(seed, many):
        if refusal(least_machine, board, leans) is None:
            yield board, leans, least_machine(board, leans)


class MachineTold(unittest.TestCase):
    def test_names_and_the_state_at_last(self):
        self.assertEqual(machine_told(MACHINE, 0, (0,)), ((10,), 0))
        self.assertEqual(machine_told(MACHINE, 0, (1,)), ((5,), 1))
        self.assertEqual(machine_told(MACHINE, 2, (0, 1, 0)), ((12, 6, 10), 0))
        self.assertEqual(machine_told(MACHINE, 0, (0, 1, 0, 1, 0, 1, 0)), ((10, 5, 11, 5, 12, 6, 10), 0))

    def test_no_numbers(self):
        for state in range(3):
            self.assertEqual(machine_told(MACHINE, state, ()), ((), state))

    def test_two_thousand(self):
        self.assertEqual(machine_told(MACHINE, 0, (1,) * 2000), (((5, 5, 6) * 667)[:2000], 2000 % 3))
        self.assertEqual(machine_told((((7, 0),),), 0, (0,) * 2000), ((7,) * 2000, 0))

    def test_machines_by_dice(self):
        dice = random.Random(131)
        for again in range(200):
            pairs = dice.randint(1, 4)
            states = dice.randint(1, 16 // pairs)
            machine = tuple(tuple((dice.randint(0, 99), dice.randrange(states)) for pair in range(pairs))
                            for state in range(states))
            row = tuple(dice.randrange(pairs) for number in range(dice.randint(0, 30)))
            for state in range(states):
                answer = machine_told(machine, state, row)
                self.assertEqual(number_kinds(answer), number_kinds(model_machine_told(machine, state, row)))
                board, leans = machine_board(machine)
                names, behind = told(board, leans[state], row)
                self.assertEqual((names, leans.index(behind)), answer)

    def no_machines(self):
        yield from others() + [0, (), ((),), MACHINE[0], MACHINE[:2], list(MACHINE), (((0, 0),),) * 17, (((0, 0),) * 5,)]
        yield from (((((100, 0),),)), (((-1, 0),),), (((0, 1),),), (((0, -1),),), (((0,),),), (((0, 0, 0),),))
        yield from kinds_changed((((1, 0), (0, 1)), ((1, 1), (0, 0))))

    def test_no_machine_comes_first(self):
        for machine in self.no_machines():
            for state, row in ((0, ()), (None, ()), (0, None), (-1, [0])):
                with self.subTest(machine=str(machine)[:60]):
                    self.assertIs(refusal(machine_told, machine, state, row), NoMachine)

    def test_no_number_comes_then(self):
        for state in no_numbers(0, 2) + [True, False, 3, -1]:
            for row in ((), (0, 1), None, [0], (2,), (0,) * 2001):
                with self.subTest(state=str(state)[:60]):
                    self.assertIs(refusal(machine_told, MACHINE, state, row), NoNumber)

    def test_no_row_comes_last(self):
        for row in no_rows(2000):
            for state in range(3):
                with self.subTest(row=str(row)[:60]):
                    self.assertIs(refusal(machine_told, MACHINE, state, row), NoRow)

    def test_just_at_the_bounds(self):
        for states in range(1, 17):
            machine = (((0, 0),),) * states
            for state in range(-1, 19):
                self.assertIs(refusal(machine_told, machine, state, ()), None if 0 <= state < states else NoNumber)
        for pairs in range(1, 5):
            for number in range(-1, 6):
                self.assertIs(refusal(machine_told, (((0, 0),) * pairs,), 0, (number,)), None if 0 <= number < pairs else NoRow)
        for many, refused in ((0, None), (2000, None), (2001, NoRow)):
            self.assertIs(refusal(machine_told, MACHINE, 1, (0,) * many), refused)


class LeastMachine(unittest.TestCase):
    def test_one_state(self):
        self.assertEqual(least_machine(LEAST, ()), ((((0, 0),),), (((), 0),), ((),), ()))
        # A rocker whose doors tell the same.
        board = drawn(".a.", feeders=(1,), doors=((5, 0),) * 3)
        self.assertEqual(least_machine(board, (0,)), ((((5, 0),),), (((0,), 0), ((1,), 0)), ((),), ()))

    def test_two_states(self):
        board = drawn(".a.", feeders=(1,))
        self.assertEqual(least_machine(board, (1,)), (
            (((2, 1),), ((0, 0),)), (((0,), 1), ((1,), 0)), ((), (0,)), ((0, 1, (0,)),)))

    def test_two_feeders(self):
        # Feeder 0's ball turns and is told by two doors, feeder 1's tells one alone.
        board = drawn(".a..", feeders=(1, 3))
        self.assertEqual(least_machine(board, (0,)), (
            (((0, 1), (3, 0)), ((2, 0), (3, 1))), (((0,), 0), ((1,), 1)), ((), (0,)), ((0, 1, (0,)),)))

    def test_a_row_as_python_orders_them(self):
        # Both feeders' balls lead on to state 1: the row (0,) comes first.
        board = drawn(".a.", feeders=(1, 1))
        machine, table, reach, parts = least_machine(board, (0,))
        self.assertEqual(reach, ((), (0,)))
        # Of feeder 0 nothing turns: so it's the row (1,).
        board = drawn(".a...", feeders=(3, 1), doors=((0, 0), (0, 0), (1, 0), (2, 0), (0, 0)))
        machine, table, reach, parts = least_machine(board, (0,))
        self.assertEqual(reach, ((), (1,)))

    def test_counters(self):
        for number in range(1, 17):
            board, leans = counter(number)
            machine, table, reach, parts = least_machine(board, leans)
            self.assertEqual(machine, tuple(((int(at == number - 1), (at + 1) % number),) for at in range(number)))
            self.assertEqual(reach, tuple((0,) * at for at in range(number)))
            self.assertEqual([len(row) for one, other, row in parts],
                             [number - other for one in range(number) for other in range(one + 1, number)])
        for number in (17, 18, 31, 32):
            self.assertIs(refusal(least_machine, *counter(number)), NoMachine)

    def test_words(self):
        for word, states in (((1, 2), 2), ((1, 2, 1, 2), 2), ((3,) * 16, 1), (tuple(range(16)), 16), ((1, 1, 2) * 5, 3)):
            board, leans = word_board(word)
            self.assertEqual(len(least_machine(board, leans)[0]), states)

    def test_machines_of_made_boards(self):
        dice = random.Random(132)
        for again in range(100):
            pairs = dice.randint(1, 4)
            states = dice.randint(1, 16 // pairs)
            machine = tuple(tuple((dice.choice((0, 0, 1)), dice.randrange(states)) for pair in range(pairs))
                            for state in range(states))
            board, leans = machine_board(machine)
            least, table, reach, parts = least_machine(board, leans[0])
            self.assertLessEqual(len(least), states)
            row = tuple(dice.randrange(pairs) for number in range(40))
            self.assertEqual(machine_told(least, 0, row)[0], machine_told(machine, 0, row)[0])

    def test_rows_gone_through(self):
        sizes, refused = set(), 0
        for board, leans in each_asked(133):
            expected = model_least(board, leans)
            if expected is None:
                refused += 1
                self.assertIs(refusal(least_machine, board, leans), NoMachine)
                continue
            answer = least_machine(board, leans)
            self.assertIs(type(answer), tuple)
            self.assertEqual(number_kinds(answer[:3]), number_kinds(expected))
            sizes.add((len(answer[0]), len(answer[0][0])))
        self.assertGreater(len(sizes), 12)
        self.assertGreater(refused, 10)

    def test_the_names_that_the_board_tells(self):
        for board, leans, (machine, table, reach, parts) in each_told(134):
            states = dict(table)
            feeders = len(board[3])
            for length in range(5 if feeders < 3 else 4):
                for row in itertools.product(range(feeders), repeat=length):
                    names, behind = told(board, leans, row)
                    self.assertEqual(machine_told(machine, 0, row), (names, states[behind]))

    def test_fewer_states_than_leans(self):
        merged = [1 for board, leans, (machine, table, reach, parts) in each_told(135) if 1 < len(machine) < len(table)]
        self.assertGreater(len(merged), 5)

    def test_parts_by_the_shortest_rows(self):
        longest = 0
        for board, leans, (machine, table, reach, parts) in each_told(136, 100):
            self.assertEqual([part[:2] for part in parts], list(itertools.combinations(range(len(machine)), 2)))
            for one, other, row in parts:
                self.assertIs(type(row), tuple)
                self.assertNotEqual(machine_told(machine, one, row)[0], machine_told(machine, other, row)[0])
                self.assertEqual(len(row), shortest_part(machine, one, other))
                longest = max(longest, len(row))
        self.assertGreater(longest, 2)

    def test_each_reach_leads_to_its_state(self):
        for board, leans, (machine, table, reach, parts) in each_told(137):
            self.assertEqual(reach[0], ())
            for state, row in enumerate(reach):
                self.assertEqual(machine_told(machine, 0, row)[1], state)
            self.assertEqual(list(reach), sorted(reach, key=lambda row: (len(row), row)))

    def test_the_checker_lets_it_by(self):
        for board, leans, paper in each_told(138):
            self.assertIs(least_holds(board, leans, paper), True)
            self.assertIs(model_holds(board, leans, paper), True)

    def test_five_groups_and_all_names_alike(self):
        dice = random.Random(139)
        for again in range(4):
            board = without_blind_places(rolled_board(dice, width=40, groups=5, rows=60, feeders=4))
            board = with_part(board, 4, ((7, 0),) * 40)
            machine, table, reach, parts = least_machine(board, (0,) * 5)
            self.assertEqual((machine, reach, parts), ((((7, 0),) * 4,), ((),), ()))
            self.assertEqual([at for at, state in table], leans_come_to(board, (0,) * 5))
            self.assertIs(least_holds(board, (0,) * 5, (machine, table, reach, parts)), True)


class LeastHolds(unittest.TestCase):
    def setUp(self):
        self.board, self.leans = counter(3)
        self.paper = least_machine(self.board, self.leans)

    def holds(self, *paper):
        return least_holds(self.board, self.leans, paper)

    def test_states_numbered_otherwise(self):
        for board, leans, (machine, table, reach, parts) in list(each_told(141))[:40]:
            if len(machine) > 4:
                continue
            for order in itertools.permutations(range(len(machine))):
                back = [order.index(state) for state in range(len(machine))]
                other_machine = tuple(tuple((name, order[following]) for name, following in machine[back[state]])
                                      for state in range(len(machine)))
                other_table = tuple((at, order[state]) for at, state in table)
                other_reach = tuple(reach[back[state]] for state in range(len(machine)))
                other_parts = tuple(tuple(sorted((order[one], order[other]))) + (row,) for one, other, row in parts)
                # The first one is where it begins: it is kept.
                held = order[0] == 0
                paper = (other_machine, other_table, other_reach, other_parts)
                self.assertIs(least_holds(board, leans, paper), held)

    def test_longer_rows(self):
        machine, table, reach, parts = self.paper
        longer = tuple((0,) * 3 + row for row in reach)
        self.assertIs(self.holds(machine, table, longer, parts), True)
        self.assertIs(self.holds(machine, table, tuple((0,) * 300 + row for row in reach), parts), True)
        self.assertIs(self.holds(machine, table, tuple((0,) + row for row in reach), parts), False)
        self.assertIs(self.holds(machine, table, reach, tuple(part[:2] + (part[2] + (0,) * 7,) for part in parts)), True)

    def test_rows_up_to_two_thousand(self):
        machine, table, reach, parts = self.paper
        for state in range(3):
            for many, held in ((1998 + state, True), (2001 + state, False)):
                changed = reach[:state] + ((0,) * many,) + reach[state + 1:]
                self.assertIs(self.holds(machine, table, changed, parts), held)
        for at, (one, other, row) in enumerate(parts):
            for many, held in ((1999, True), (2000, True), (2001, False), (10000, False)):
                changed = parts[:at] + ((one, other, (0,) * many),) + parts[at + 1:]
                self.assertIs(self.holds(machine, table, reach, changed), held)

    def test_entries_in_another_order_and_twice(self):
        machine, table, reach, parts = self.paper
        for order in itertools.permutations(table + table[:1]):
            self.assertIs(self.holds(machine, order, reach, parts), True)
        for order in itertools.permutations(parts + parts[:1]):
            self.assertIs(self.holds(machine, table, reach, order), True)
        more = parts[:1] + ((parts[0][0], parts[0][1], (0,) * 50),)
        self.assertIs(self.holds(machine, table, reach, parts + more), True)

    def test_without_the_told_leans_with_0(self):
        machine, table, reach, parts = self.paper
        self.assertIs(self.holds(machine, (), reach, parts), False)
        for at, state in table:
            self.assertIs(least_holds(self.board, at, self.paper), state == 0)
        without = tuple(entry for entry in table if entry != (self.leans, 0))
        self.assertIs(self.holds(machine, without, reach, parts), False)
        for state in (1, 2):
            self.assertIs(self.holds(machine, without + ((self.leans, state),), reach, parts), False)

    def test_lacking_what_is_behind(self):
        for board, leans, (machine, table, reach, parts) in list(each_told(142))[:40]:
            for at in range(len(table)):
                paper = (machine, table[:at] + table[at + 1:], reach, parts)
                self.assertIs(least_holds(board, leans, paper), False)

    def test_more_entries(self):
        # Group 1 isn't met by any ball: entries of other leans of it lead on within themselves.
        board = drawn(".a.", "...", feeders=(1,), groups=2)
        machine, table, reach, parts = least_machine(board, (0, 0))
        more = tuple((at[:1] + (1,), state) for at, state in table)
        self.assertIs(least_holds(board, (0, 0), (machine, table + more, reach, parts)), True)
        self.assertIs(least_holds(board, (0, 0), (machine, more, reach, parts)), False)
        self.assertIs(least_holds(board, (0, 0), (machine, table + more[:1], reach, parts)), False)
        wrong = tuple((at, 1 - state) for at, state in more)
        self.assertIs(least_holds(board, (0, 0), (machine, table + wrong, reach, parts)), False)

    def test_a_reach_row_that_leads_elsewhere(self):
        machine, table, reach, parts = self.paper
        for state in range(3):
            for many in range(8):
                changed = reach[:state] + ((0,) * many,) + reach[state + 1:]
                self.assertIs(self.holds(machine, table, changed, parts), many % 3 == state)
        for changed in (reach[:-1], reach + ((),), reach[1:], reach[::-1], (), list(reach)):
            self.assertIs(self.holds(machine, table, changed, parts), False)

    def test_parts(self):
        machine, table, reach, parts = self.paper
        self.assertEqual(len(parts), 3)
        for at, (one, other, row) in enumerate(parts):
            self.assertIs(self.holds(machine, table, reach, parts[:at] + parts[at + 1:]), False)
            for wrong in ((one, other, row[:-1]), (one, other, ()), (other, one, row), (one, one, row), (one, other),
                          (one, other, row, row), (one, other, row + (1,)), (one, 3, row), (-1, other, row)):
                self.assertIs(self.holds(machine, table, reach, parts[:at] + (wrong,) + parts[at + 1:]), False)
                self.assertIs(self.holds(machine, table, reach, parts + (wrong,)), False)

    def test_a_machine_with_more_states_than_need_be(self):
        # Two states that tell the same are parted by no row.
        board, leans = word_board((5, 5))
        machine = (((5, 1),), ((5, 0),))
        table = ((leans, 0), (told(board, leans, (0,))[1], 1))
        self.assertIs(least_holds(board, leans, (machine, table, ((), (0,)), ())), False)
        self.assertIs(least_holds(board, leans, (machine, table, ((), (0,)), ((0, 1, (0, 0)),))), False)
        self.assertIs(least_holds(board, leans, ((((5, 0),),), tuple((at, 0) for at, state in table), ((),), ())), True)

    def test_a_state_that_is_not_come_to(self):
        machine, table, reach, parts = self.paper
        more = machine + (((9, 3),),)
        more_parts = parts + tuple((state, 3, (0,)) for state in range(3))
        for row in ((), (0,), (0,) * 3, None):
            self.assertIs(self.holds(more, table, reach + (row,), more_parts), False)

    def test_other_machines(self):
        machine, table, reach, parts = self.paper
        for other in (machine[:-1], machine + machine[:1], machine[::-1], (), (machine[0] * 2,) * 3,
                      tuple(state * 2 for state in machine), machine[:2] + (((2, 0),),), machine[:2] + (((1, 1),),)):
            self.assertIs(self.holds(other, table, reach, parts), False)

    def test_not_as_many_pairs_as_feeders(self):
        board = drawn(".a..", feeders=(1, 3))
        machine, table, reach, parts = least_machine(board, (0,))
        for other in (tuple(state[:1] for state in machine), tuple(state + state[:1] for state in machine)):
            self.assertIs(least_holds(board, (0,), (other, table, reach, parts)), False)

    def test_a_ball_that_is_stuck(self):
        board = drawn(".a.", "s..", feeders=(1,), doors=((5, 0),) * 3)
        for leans in ((0,), (1,)):
            for name in (0, 5):
                paper = ((((name, 0),),), (((0,), 0), ((1,), 0)), ((),), ())
                self.assertIs(least_holds(board, leans, paper), False)
            self.assertIs(least_holds(board, leans, ((((None, 0),),), (((0,), 0), ((1,), 0)), ((),), ())), False)

    def test_changed_papers(self):
        held = 0
        for board, leans, paper in list(each_told(143))[:30]:
            if len(paper[0]) > 3 or len(paper[1]) > 4:
                continue
            for changed in changed_papers(paper):
                answer = least_holds(board, leans, changed)
                self.assertIs(answer, model_holds(board, leans, changed), changed)
                held += answer
        self.assertGreater(held, 20)

    def test_kinds(self):
        for board, leans, paper in list(each_told(144))[:40]:
            for changed in kinds_changed(paper):
                self.assertIs(least_holds(board, leans, changed), False)

    def test_things_of_any_kind(self):
        for board, leans in ((self.board, self.leans), (LEAST, ()), (drawn(".a..", feeders=(1, 3)), (1,))):
            machine, table, reach, parts = least_machine(board, leans)
            for thing in others() + [0, 1, (), machine, table, reach, parts]:
                papers = [
                    thing, (thing, table, reach, parts), (machine, thing, reach, parts), (machine, table, thing, parts),
                    (machine, table, reach, thing), (machine + (thing,), table, reach, parts),
                    (machine, table + (thing,), reach, parts), (machine, table, reach + (thing,), parts),
                    (machine, table, reach, parts + (thing,)), (machine, table, (thing,) + reach[1:], parts),
                    (machine, table + ((thing, 0),), reach, parts), (machine, table + ((leans, thing),), reach, parts),
                    (machine, table, reach, parts + ((thing, 1, (0,)),)), (machine, table, reach, parts + ((0, thing, (0,)),)),
                    (machine, table, reach, parts + ((0, 1, thing),)), (machine, table, reach, parts + ((0, 1, (thing,)),)),
                    (((thing,),) + machine[1:], table, reach, parts), ((((thing, 0),),) + machine[1:], table, reach, parts),
                ]
                for paper in papers:
                    with self.subTest(paper=str(paper)[:60]):
                        self.assertIs(least_holds(board, leans, paper), model_holds(board, leans, paper))

    def test_more_than_five_groups(self):
        for groups in range(9):
            leans = (0,) * groups
            paper = ((((0, 0),) * 2,), ((leans, 0),), ((),), ())
            self.assertIs(least_holds(plain_board(groups=groups), leans, paper), groups <= 5)


class Remade(unittest.TestCase):
    def test_alike(self):
        sizes = set()
        for board, leans, (machine, table, reach, parts) in each_told(145):
            answer = remade(board, leans)
            self.assertIs(type(answer), tuple)
            made, made_leans = answer
            self.assertIsNone(look_at_board(made))
            self.assertEqual(alike(board, leans, made, made_leans)[0], "alike")
            self.assertEqual(made[1], least_groups(len(machine), 1))
            self.assertEqual({call for name, call in made[4]}, {0})
            self.assertEqual(len(made[3]), len(board[3]))
            sizes.add(made[1])
        self.assertGreater(len(sizes), 3)

    def test_its_least_machine_is_the_same(self):
        for board, leans, paper in each_told(146):
            again = least_machine(*remade(board, leans))
            self.assertEqual((again[0], again[2], again[3]), (paper[0], paper[2], paper[3]))

    def test_groups_that_need_not_be(self):
        board = drawn(".a.", "...", feeders=(1,), groups=5, doors=((5, 0),) * 3)
        made, leans = remade(board, (0, 1, 0, 1, 1))
        self.assertEqual((made[1], leans), (0, ()))

    def test_counters(self):
        for number in range(1, 17):
            made, leans = remade(*counter(number))
            self.assertEqual(made[1], least_groups(number, 1))
            self.assertEqual(told(made, leans, (0,) * 40)[0], tuple(int(ball % number == number - 1) for ball in range(40)))


class Refused(unittest.TestCase):
    def asks(self):
        yield least_machine
        yield remade
        for paper in (None, least_machine(*counter(3)), [], ((), (), (), ())):
            yield lambda board, leans, paper=paper: least_holds(board, leans, paper)

    def test_no_board_comes_first(self):
        for ask in self.asks():
            for board in no_boards():
                for leans in ((0, 1), None, []):
                    with self.subTest(board=str(board)[:60]):
                        self.assertIs(refusal(ask, board, leans), NoBoard)

    def test_fault_comes_then(self):
        great = with_place(plain_board(3, 8), 1, 2, "x")
        for ask in self.asks():
            for leans in ((0, 1), None, [], (0,) * 8):
                self.assertEqual(refusal(ask, FAULTY, leans), (Fault,) + FAULTY_AT)
                self.assertEqual(refusal(ask, great, leans), (Fault, 1, 2))

    def test_no_leans_comes_then(self):
        for ask in self.asks():
            for leans in no_leans() + [()]:
                with self.subTest(leans=str(leans)[:60]):
                    self.assertIs(refusal(ask, MIXED, leans), NoLeans)
                    self.assertIs(refusal(ask, plain_board(groups=6), leans), NoLeans)

    def test_too_great_comes_then(self):
        for ask in (least_machine, remade):
            for groups in range(9):
                expected = TooGreat if groups > 5 else None
                self.assertIs(refusal(ask, plain_board(groups=groups), (0,) * groups), expected)
                # A ball of it is stuck, too.
                blind = with_part(plain_board(groups=groups), 2, (("s",) * 3,))
                self.assertIs(refusal(ask, blind, (0,) * groups), expected or NoMachine)
        for groups in range(9):
            self.assertIsNone(refusal(least_holds, plain_board(groups=groups), (0,) * groups, None))

    def test_no_machine_where_a_ball_is_stuck(self):
        for ask in (least_machine, remade):
            self.assertIs(refusal(ask, drawn("s"), ()), NoMachine)
            self.assertIs(refusal(ask, chain(4, blind=True), (0,) * 4), NoMachine)
            self.assertIs(refusal(ask, drawn(".s", feeders=(0, 0, 0, 1)), ()), NoMachine)
            # A blind place that no ball comes to.
            self.assertIsNone(refusal(ask, drawn(".s"), ()))

    def test_no_machine_of_too_many_states(self):
        for ask in (least_machine, remade):
            for number in range(1, 33):
                self.assertIs(refusal(ask, *counter(number)), None if number <= 16 else NoMachine)
                for feeders in (1, 2, 3, 4):
                    board, leans = counter(number)
                    board = with_part(board, 3, board[3] * feeders)
                    self.assertIs(refusal(ask, board, leans), None if number * feeders <= 16 else NoMachine)

    def test_what_is_handed_in_stays(self):
        for thing in others() + [[[[[0, 0]]], [], [[]], []], ((([0, 0],),), [((), 0)], [()], [])]:
            before = copy.deepcopy(thing)
            least_holds(MIXED, (0, 1), thing)
            least_holds(LEAST, (), thing)
            for ask in (least_machine, remade):
                refusal(ask, thing, thing)
                refusal(ask, MIXED, thing)
            refusal(least_holds, MIXED, thing, thing)
            refusal(machine_told, thing, thing, thing)
            refusal(machine_told, MACHINE, thing, thing)
            refusal(machine_told, MACHINE, 0, thing)
            self.assertEqual(thing, before)

    def test_the_same_each_time(self):
        asked = [(board, leans) for board, leans, paper in each_told(147, 60)]
        first = [(least_machine(*things), remade(*things)) for things in asked]
        self.assertEqual([(least_machine(*things), remade(*things)) for things in asked[::-1]][::-1], first)


if __name__ == "__main__":
    unittest.main()
