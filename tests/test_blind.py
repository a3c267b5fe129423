"""stuck and stuck_holds [21], and what they refuse [2], [4], [8]."""

import copy
import itertools
import random
import unittest

from ballrockers.blind import stuck, stuck_holds
from ballrockers.boards import all_leans
from ballrockers.errors import Fault, NoBoard, NoLeans
from ballrockers.runs import told
from samples import (
    FAULTY, FAULTY_AT, LEAST, MIXED, chain, changed_papers, digits_of, drawn, kinds_changed, model_ball,
    model_is_leans, no_boards, no_leans, number_kinds, number_of, others, plain_board, refusal, rolled_board,
    rolled_leans, rolled_turning_board, with_part, with_place, without_blind_places,
)

# The first ball goes past the blind place, the second one into it.
SECOND = drawn(".A.", "s..", feeders=(1,))
# Balls of feeder 0 turn and come out; one of feeder 1 is stuck where the rocker leans to the left.
BY_ONE_FEEDER = drawn(".a...a.", "....s..", feeders=(1, 5))


def gone_through(board, leans, most):
    """What stuck tells but for its row, by all rows of at most so many balls; None where these don't suffice."""
    balls = {leans: 0}
    for many in range(1, most + 1):
        known = len(balls)
        ends = False
        for row in itertools.product(range(len(board[3])), repeat=many):
            names, behind = told(board, leans, row)
            if None in names:
                ends = True
            else:
                balls.setdefault(behind, many)
        if ends:
            return ("stuck", many, tuple(sorted(pair for pair in balls.items() if pair[1] < many)))
        if len(balls) == known:
            return ("safe", tuple(sorted(balls)))
    return None


def from_leans_to_leans(board, leans):
    """What stuck tells but for its row, by letting each ball fall by the model until nothing new comes."""
    balls = {leans: 0}
    many = 0
    while True:
        comings = [model_ball(board, at, feeder) for at in balls for feeder in range(len(board[3]))]
        many += 1
        if any(name is None for name, call, behind in comings):
            return ("stuck", many, tuple(sorted(balls.items())))
        known = len(balls)
        for name, call, behind in comings:
            balls.setdefault(behind, many)
        if len(balls) == known:
            return ("safe", tuple(sorted(balls)))


def model_holds(board, leans, paper):
    """[21] word by word: whether the paper holds."""
    feeders = range(len(board[3]))
    if type(paper) is not tuple or not paper or paper[0] not in ("safe", "stuck"):
        return False
    if len(paper) != {"safe": 2, "stuck": 3}[paper[0]] or type(paper[-1]) is not tuple:
        return False
    table = paper[-1]
    if paper[0] == "safe":
        if not all(model_is_leans(board, at) for at in table):
            return False
        comings = [model_ball(board, at, feeder) for at in set(table) for feeder in feeders]
        return leans in table and all(name is not None and behind in table for name, call, behind in comings)
    row = paper[1]
    if type(row) is not tuple or not row or not all(type(feeder) is int and feeder in feeders for feeder in row):
        return False
    for entry in table:
        if type(entry) is not tuple or len(entry) != 2 or not model_is_leans(board, entry[0]):
            return False
        if type(entry[1]) is not int or entry[1] < 0:
            return False
    at = leans
    for ball, feeder in enumerate(row):
        name, call, at = model_ball(board, at, feeder)
        if (name is None) != (ball == len(row) - 1):
            return False
    for at, balls in table:
        for feeder in feeders if balls < len(row) - 1 else ():
            name, call, behind = model_ball(board, at, feeder)
            if name is None or not any(other == behind and more <= balls + 1 for other, more in table):
                return False
    return (leans, 0) in table


class Stuck(unittest.TestCase):
    def is_told(self, board, leans, expected):
        """What is told is what is expected, which has how many balls there are in the place of a row."""
        answer = stuck(board, leans)
        self.assertIs(stuck_holds(board, leans, answer), True)
        self.assertIs(type(answer), tuple)
        if answer[0] == "safe":
            self.assertEqual(number_kinds(answer), number_kinds(expected))
            return
        word, row, table = answer
        self.assertEqual(number_kinds((word, len(row), table)), number_kinds(expected))
        self.assertIs(type(row), tuple)
        names = told(board, leans, row)[0]
        self.assertEqual([name is None for name in names], [False] * (len(row) - 1) + [True])

    def test_no_rows_and_no_groups(self):
        self.assertEqual(stuck(LEAST, ()), ("safe", ((),)))
        self.assertEqual(stuck(drawn("...", "><.", feeders=(0, 1, 2, 2)), ()), ("safe", ((),)))
        self.assertEqual(stuck(plain_board(rows=0), (1, 0)), ("safe", ((1, 0),)))

    def test_a_blind_place_that_no_ball_comes_to(self):
        self.assertEqual(stuck(drawn(".s.", feeders=(0, 2)), ()), ("safe", ((),)))
        self.assertEqual(stuck(drawn(".a.", ".s.", feeders=(1,)), (1,)), ("safe", ((0,), (1,))))

    def test_the_first_ball(self):
        self.assertEqual(stuck(drawn("s"), ()), ("stuck", (0,), (((), 0),)))
        self.assertEqual(stuck(drawn(".a.", "s..", feeders=(1,)), (0,)), ("stuck", (0,), (((0,), 0),)))

    def test_the_second_ball(self):
        self.assertEqual(stuck(SECOND, (0,)), ("stuck", (0, 0), (((0,), 0), ((1,), 1))))
        self.assertEqual(stuck(SECOND, (1,)), ("stuck", (0,), (((1,), 0),)))

    def test_one_of_several_feeders(self):
        for feeder in range(4):
            feeders = tuple(int(at == feeder) for at in range(4))
            self.assertEqual(stuck(drawn(".s", feeders=feeders), ()), ("stuck", (feeder,), (((), 0),)))
        self.assertEqual(stuck(BY_ONE_FEEDER, (0,)), ("stuck", (1,), (((0,), 0),)))
        self.assertEqual(stuck(BY_ONE_FEEDER, (1,)), ("stuck", (0, 1), (((0,), 1), ((1,), 0))))

    def test_the_told_leans_are_in_the_table(self):
        # The ball turns group 0 twice where it leans to the right: from (1,) on no ball leaves it otherwise.
        board = drawn("..a..", "...<.", "..a..", feeders=(2,))
        self.assertEqual(stuck(board, (1,)), ("safe", ((1,),)))
        # Where it leans to the left it is turned once, and never again.
        self.assertEqual(stuck(board, (0,)), ("safe", ((0,), (1,))))

    def test_a_chain_that_counts(self):
        for groups in range(9):
            board = chain(groups, blind=True)
            word, row, table = stuck(board, (0,) * groups)
            self.assertEqual((word, row), ("stuck", (0,) * 2 ** groups))
            self.assertEqual(table, tuple(sorted((digits_of(number, groups), number) for number in range(2 ** groups))))
            self.assertIs(stuck_holds(board, (0,) * groups, (word, row, table)), True)

    def test_a_chain_from_each_leans(self):
        board = chain(5, blind=True)
        for leans in all_leans(5):
            number = number_of(leans)
            word, row, table = stuck(board, leans)
            self.assertEqual((word, row, len(table)), ("stuck", (0,) * (32 - number), 32 - number))

    def test_a_chain_without_a_blind_place(self):
        self.assertEqual(stuck(chain(8), (0, 1) * 4), ("safe", tuple(all_leans(8))))

    def test_a_chain_that_no_other_feeder_turns(self):
        board = with_part(chain(8, blind=True), 3, (0, chain(8)[3][0], 0, 0))
        word, row, table = stuck(board, (0,) * 8)
        self.assertEqual((word, row, len(table)), ("stuck", (1,) * 256, 256))

    def test_a_shorter_row_by_another_feeder(self):
        # Feeder 1 turns the last of the chain alone: two of it and the chain is as it was, one is half of it.
        board = with_part(chain(4, blind=True), 3, (chain(4)[3][0], chain(4)[3][0] - 3))
        self.assertEqual(stuck(board, (0,) * 4)[1], (1, 1))
        self.assertEqual(len(stuck(with_part(board, 3, board[3][:1]), (0,) * 4)[1]), 16)

    def test_all_short_rows(self):
        dice = random.Random(51)
        words = []
        for again in range(600):
            board = rolled_board(dice, groups=dice.randint(0, 3), feeders=dice.randint(1, 3), width=dice.randint(1, 7))
            if again % 3:
                board = rolled_turning_board(dice, dice.randint(2, 3), dice.randint(1, 2), again % 3 - 1)
            leans = rolled_leans(dice, board)
            expected = gone_through(board, leans, 6)
            if expected is not None:
                self.is_told(board, leans, expected)
                words.append((expected[0], len(expected[-1])))
        # Each end comes, and not by the least boards alone.
        for word in ("safe", "stuck"):
            self.assertGreater(len([1 for told_word, many in words if told_word == word and many >= 3]), 5, word)

    def test_ball_by_ball_by_the_model(self):
        dice = random.Random(52)
        longest = 0
        for again in range(150):
            board = rolled_turning_board(dice, dice.randint(1, 6), dice.randint(1, 4), again % 3)
            leans = rolled_leans(dice, board)
            expected = from_leans_to_leans(board, leans)
            self.is_told(board, leans, expected)
            if expected[0] == "stuck":
                longest = max(longest, expected[1])
        self.assertGreater(longest, 5)

    def test_greatest_boards(self):
        dice = random.Random(53)
        safe = 0
        for again in range(4):
            board = rolled_board(dice, width=40, groups=8, rows=60, feeders=4)
            if again % 2 == 0:
                board = without_blind_places(board)
            answer = stuck(board, (0,) * 8)
            self.assertIs(stuck_holds(board, (0,) * 8, answer), True)
            safe += answer[0] == "safe"
        self.assertEqual(safe, 2)


class SafeHolds(unittest.TestCase):
    # Each ball turns group 0; none comes to group 1.
    round_of_two = drawn(".....", ".a.b.", ".....", feeders=(1,), groups=2)

    def holds(self, table, leans=(0, 0), board=None):
        return stuck_holds(self.round_of_two if board is None else board, leans, ("safe", table))

    def test_what_stuck_tells(self):
        self.assertEqual(stuck(self.round_of_two, (0, 0)), ("safe", ((0, 0), (1, 0))))
        self.assertIs(self.holds(((0, 0), (1, 0))), True)

    def test_in_any_order_and_twice(self):
        for table in itertools.permutations(((0, 0), (1, 0), (0, 0), (1, 0), (1, 0))):
            self.assertIs(self.holds(table), True)

    def test_with_more_leans(self):
        self.assertIs(self.holds(((0, 1), (0, 0), (1, 1), (1, 0))), True)
        self.assertIs(self.holds(((0, 1), (0, 0), (1, 0))), False)
        self.assertIs(self.holds(((0, 0), (1, 0), (1, 1))), False)

    def test_more_leans_by_which_a_ball_is_stuck(self):
        # Each ball turns both groups; where they are unlike it is stuck.
        board = drawn("..a..", ".b.b.", "..s..", feeders=(2,))
        safe = ((0, 0), (1, 1))
        self.assertEqual(stuck(board, (0, 0)), ("safe", safe))
        self.assertEqual(stuck(board, (0, 1)), ("stuck", (0,), (((0, 1), 0),)))
        self.assertIs(self.holds(safe, board=board), True)
        for more in (((0, 1),), ((1, 0),), ((0, 1), (1, 0))):
            self.assertIs(self.holds(safe + more, board=board), False)
        self.assertIs(self.holds(tuple(all_leans(2)), (0, 1), board), False)

    def test_without_the_told_leans(self):
        for table in ((), ((0, 1), (1, 1)), ((1, 0),), ((1, 1), (0, 1), (1, 0))):
            self.assertIs(self.holds(table), False)

    def test_lacking_leans_behind(self):
        self.assertIs(self.holds(((0, 0),)), False)
        self.assertIs(self.holds(((0, 0), (0, 1), (1, 1))), False)
        table = stuck(chain(5), (0,) * 5)[1]
        for at in range(32):
            self.assertIs(stuck_holds(chain(5), (0,) * 5, ("safe", table[:at] + table[at + 1:])), False)

    def test_leans_behind_of_each_feeder(self):
        board = drawn("......", ".a..b.", feeders=(1, 4), groups=2)
        whole = tuple(all_leans(2))
        self.assertIs(self.holds(whole, board=board), True)
        for part in (((0, 0), (1, 0)), ((0, 0), (0, 1)), whole[:3], whole[1:], ((0, 0),)):
            self.assertIs(self.holds(part, board=board), False)

    def test_of_a_board_that_is_not_safe(self):
        for leans in ((0,), (1,)):
            for table in (((0,), (1,)), ((0,),), ((1,),), ()):
                self.assertIs(self.holds(table, leans, SECOND), False)

    def test_a_ball_of_one_feeder_that_is_stuck(self):
        for table in (((0,), (1,)), ((0,),)):
            self.assertIs(self.holds(table, (0,), BY_ONE_FEEDER), False)

    def test_no_leans_in_the_table(self):
        for thing in no_leans() + [(), (0, 0, 0)]:
            with self.subTest(thing=str(thing)[:60]):
                self.assertIs(self.holds(((0, 0), (1, 0), thing)), False)
                self.assertIs(self.holds((thing, (0, 0), (1, 0))), False)

    def test_no_groups(self):
        for table, held in ((((),), True), (((), ()), True), ((), False), (((0,),), False), (((), (0,)), False)):
            self.assertIs(stuck_holds(LEAST, (), ("safe", table)), held)


class StuckHolds(unittest.TestCase):
    """SECOND from (0,): the row (0, 0) and the table (((0,), 0), ((1,), 1))."""

    def holds(self, row, table, leans=(0,), board=SECOND):
        return stuck_holds(board, leans, ("stuck", row, table))

    def test_what_stuck_tells(self):
        self.assertIs(self.holds((0, 0), (((0,), 0), ((1,), 1))), True)

    def test_in_any_order_and_twice(self):
        entries = (((0,), 0), ((1,), 1), ((0,), 0), ((1,), 1))
        for table in itertools.permutations(entries):
            self.assertIs(self.holds((0, 0), table), True)

    def test_unlike_numbers_of_the_same_leans(self):
        for table in itertools.permutations((((0,), 0), ((1,), 1), ((0,), 5), ((1,), 7), ((1,), 10 ** 59))):
            self.assertIs(self.holds((0, 0), table), True)
        # With 0 balls (1,) must lead on, and its ball is stuck.
        self.assertIs(self.holds((0, 0), (((0,), 0), ((1,), 0), ((1,), 1))), False)

    def test_greater_numbers(self):
        # The leans with just the row's length less 1, or more, needn't lead on.
        self.assertIs(self.holds((0, 0), (((0,), 0), ((1,), 1), ((1,), 2))), True)
        # More than one ball more isn't at most one ball more.
        for more in (2, 3, 10 ** 59):
            self.assertIs(self.holds((0, 0), (((0,), 0), ((1,), more))), False)

    def test_fewer_balls_than_it_takes(self):
        # A lesser number asks that as many balls more lead nowhere.
        board = chain(2, blind=True)
        table = (((0, 0), 0), ((1, 0), 1), ((0, 1), 2), ((1, 1), 3))
        self.assertIs(self.holds((0,) * 4, table, (0, 0), board), True)
        self.assertIs(self.holds((0,) * 4, (((0, 0), 0), ((1, 0), 1), ((0, 1), 1), ((1, 1), 2)), (0, 0), board), False)
        self.assertIs(self.holds((0,) * 4, (((0, 0), 0), ((1, 0), 1), ((0, 1), 1), ((1, 1), 3)), (0, 0), board), False)
        self.assertIs(self.holds((0,) * 4, table + (((1, 0), 0),), (0, 0), board), False)

    def test_an_entry_that_leads_to_two_balls_more(self):
        board = chain(3, blind=True)
        word, row, table = stuck(board, (0,) * 3)
        for at, (leans, balls) in enumerate(table):
            for more in (1, 2, 10 ** 50):
                changed = table[:at] + ((leans, balls + more),) + table[at + 1:]
                self.assertIs(self.holds(row, changed, (0,) * 3, board), False)

    def test_without_an_entry(self):
        board = chain(3, blind=True)
        word, row, table = stuck(board, (0,) * 3)
        for at in range(len(table)):
            self.assertIs(self.holds(row, table[:at] + table[at + 1:], (0,) * 3, board), False)

    def test_more_leans(self):
        board = drawn(".A.", "s..", feeders=(1,), groups=2)
        table = (((0, 0), 0), ((1, 0), 1))
        self.assertIs(self.holds((0, 0), table, (0, 0), board), True)
        self.assertIs(self.holds((0, 0), table + (((0, 1), 0), ((1, 1), 1)), (0, 0), board), True)
        self.assertIs(self.holds((0, 0), table + (((0, 1), 1),), (0, 0), board), True)
        self.assertIs(self.holds((0, 0), table + (((0, 1), 0),), (0, 0), board), False)
        self.assertIs(self.holds((0, 0), table + (((1, 1), 0), ((0, 1), 0)), (0, 0), board), False)

    def test_without_the_told_leans(self):
        for table in ((), (((1,), 1),), (((0,), 1), ((1,), 1)), (((0,), 1), ((1,), 0)), (((1,), 0),)):
            self.assertIs(self.holds((0, 0), table), False)
        self.assertIs(self.holds((0,), (((1,), 0),), (1,)), True)
        self.assertIs(self.holds((0,), (((1,), 1),), (1,)), False)
        self.assertIs(self.holds((0,), (), (1,)), False)

    def test_the_last_ball_is_not_stuck(self):
        table = (((0,), 0), ((1,), 1))
        for row in ((0,), (0, 0, 0), (0, 0, 0, 0)):
            self.assertIs(self.holds(row, table), False)
        self.assertIs(self.holds((0, 0), (((1,), 0), ((0,), 1)), (1,)), False)

    def test_an_earlier_ball_is_stuck_too(self):
        board = drawn("s.", feeders=(0, 1))
        table = (((), 0),)
        self.assertIs(self.holds((0,), table, (), board), True)
        for row in ((0, 0), (1, 0), (0, 1), (0, 1, 0), (1,), (1, 1)):
            self.assertIs(self.holds(row, table, (), board), False)

    def test_an_empty_row(self):
        for leans in ((0,), (1,)):
            for table in ((), (((0,), 0), ((1,), 1)), ((leans, 0),)):
                self.assertIs(self.holds((), table, leans), False)

    def test_parts_more_and_fewer(self):
        table = (((0,), 0), ((1,), 1))
        for entry in table:
            for other in (entry + (0,), entry + ((),), entry[:1], entry[1:], entry[::-1], entry[:1] + (None,)):
                self.assertIs(self.holds((0, 0), table + (other,)), False)

    def test_numbers_below_none(self):
        for balls in (-1, -2, -(10 ** 59)):
            self.assertIs(self.holds((0, 0), (((0,), 0), ((1,), 1), ((1,), balls))), False)
            self.assertIs(self.holds((0, 0), (((0,), balls), ((1,), 1))), False)
            self.assertIs(self.holds((0,), (((1,), 0), ((0,), balls)), (1,)), False)

    def test_a_safe_board(self):
        for row in ((0,), (0, 0), (0, 0, 0)):
            self.assertIs(self.holds(row, (((0,), 0), ((1,), 1)), (0,), drawn(".a.", feeders=(1,))), False)

    def test_greater_numbers_beside_the_least_ones(self):
        board = drawn("..A...", ".B....", "s.....", feeders=(2, 5))
        word, row, table = stuck(board, (0, 0))
        self.assertEqual((word, row), ("stuck", (0,) * 4))
        for at, (leans, balls) in enumerate(table):
            changed = table[:at] + ((leans, balls + 1),) + table[at + 1:]
            self.assertIs(self.holds(row, changed + table, (0, 0), board), True)
            self.assertIs(self.holds(row, changed, (0, 0), board), False)

    def test_a_lesser_number_that_is_let(self):
        # Feeder 1 turns group 1, by which no ball is stuck.
        board = drawn("..A...b.", ".s......", "........", feeders=(2, 6))
        word, row, table = stuck(board, (0, 0))
        self.assertEqual((word, row, table), ("stuck", (0, 0), (((0, 0), 0), ((0, 1), 1), ((1, 0), 1))))
        for entry, held in ((((0, 1), 1), True), (((0, 1), 2), False), (((0, 1), 0), False)):
            self.assertIs(self.holds(row, (((0, 0), 0), entry, ((1, 0), 1)), (0, 0), board), held)
        # With 0 balls it must lead on, and does so where what comes behind it stands there.
        table = (((0, 0), 0), ((0, 1), 0), ((1, 0), 1), ((1, 1), 1))
        self.assertIs(self.holds(row, table, (0, 0), board), True)


class RowsOfAnyLength(unittest.TestCase):
    """No row is False for its length alone; but no table bears one that is longer than the shortest."""

    def test_the_longest_that_holds(self):
        board = chain(8, blind=True)
        paper = stuck(board, (0,) * 8)
        self.assertEqual(len(paper[1]), 256)
        self.assertIs(stuck_holds(board, (0,) * 8, paper), True)

    def test_no_row_beyond_the_shortest(self):
        # A ball of feeder 1 does nothing: rows of any length end by a ball that is stuck, it alone.
        board = drawn("s.", feeders=(0, 1))
        for many in (0, 1, 2, 1999, 2000, 2001, 5000, 15000):
            for table in ((((), 0),), (((), 0), ((), many)), (((), 0), ((), many + 1)), (((), many),)):
                paper = ("stuck", (1,) * many + (0,), table)
                self.assertIs(stuck_holds(board, (), paper), many == 0)

    def test_no_row_beyond_the_shortest_of_many_leans(self):
        board = with_part(chain(5, blind=True), 3, chain(5)[3] + (0,))
        word, row, table = stuck(board, (0,) * 5)
        self.assertEqual(row, (0,) * 32)
        for more in (1, 2, 1969, 3000):
            longer = (1,) * more + row
            self.assertIs(stuck_holds(board, (0,) * 5, (word, longer, table)), False)
            moved = tuple((leans, balls + more) for leans, balls in table)
            self.assertIs(stuck_holds(board, (0,) * 5, (word, longer, moved)), False)
            self.assertIs(stuck_holds(board, (0,) * 5, (word, longer, moved + (((0,) * 5, 0),))), False)

    def test_safe_boards(self):
        for many in (1, 2000, 2001, 15000):
            self.assertIs(stuck_holds(LEAST, (), ("stuck", (0,) * many, (((), 0),))), False)


class Papers(unittest.TestCase):
    def each_paper(self):
        dice = random.Random(54)
        boards = [MIXED, LEAST, SECOND, BY_ONE_FEEDER, drawn("s"), chain(2), chain(2, blind=True)]
        for board in boards + [rolled_board(dice, groups=dice.randint(0, 3)) for again in range(25)]:
            leans = rolled_leans(dice, board)
            yield board, leans, stuck(board, leans)

    def test_what_stuck_tells(self):
        for board, leans, paper in self.each_paper():
            self.assertIs(stuck_holds(board, leans, paper), True)

    def test_changed_papers(self):
        held = 0
        for board, leans, paper in self.each_paper():
            for changed in changed_papers(paper):
                answer = stuck_holds(board, leans, changed)
                self.assertIs(answer, model_holds(board, leans, changed), changed)
                # What is let by is true: it says what stuck says.
                if answer:
                    held += 1
                    self.assertEqual(changed[0], paper[0])
                    self.assertEqual(len(changed[1]) if paper[0] == "stuck" else 0, len(paper[1]) if changed[2:] else 0)
        self.assertGreater(held, 20)

    def test_papers_by_dice(self):
        dice = random.Random(55)
        held = []
        for again in range(3000):
            board = rolled_turning_board(dice, dice.randint(0, 3), dice.randint(1, 2), again % 2)
            leans = rolled_leans(dice, board)
            paper = self.rolled_paper(dice, board, stuck(board, leans))
            answer = stuck_holds(board, leans, paper)
            self.assertIs(answer, model_holds(board, leans, paper), (board, leans, paper))
            if answer:
                held.append(len(paper[1]) if paper[0] == "stuck" else 0)
                self.assertEqual(stuck(board, leans)[0], paper[0])
        for length in (0, 1, 2):
            self.assertGreater(held.count(length), 5, length)
        self.assertLess(len(held), 2800)

    def rolled_paper(self, dice, board, paper):
        """The paper with some entries out and some more, in another order; some with another row."""
        table = [entry for entry in paper[-1] if dice.random() < 0.95]
        for entry in range(dice.randint(0, 3)):
            leans = rolled_leans(dice, board)
            table.append(leans if paper[0] == "safe" else (leans, dice.randint(0, len(paper[1]))))
        dice.shuffle(table)
        if paper[0] == "safe":
            return ("safe", tuple(table))
        row = paper[1]
        if dice.random() < 0.3:
            row = tuple(dice.randrange(len(board[3])) for ball in range(len(row) + dice.randint(-1, 1)))
        return ("stuck", row, tuple(table))

    def test_kinds(self):
        for board, leans, paper in self.each_paper():
            for changed in kinds_changed(paper):
                self.assertIs(stuck_holds(board, leans, changed), False, changed)

    def test_words(self):
        for board, leans, paper in self.each_paper():
            for word in ("alike", "parted", "", "Safe", "stuck ", ("safe",), ["stuck"], None, 0, True):
                self.assertIs(stuck_holds(board, leans, (word,) + paper[1:]), False)
            word = {"safe": "stuck", "stuck": "safe"}[paper[0]]
            self.assertIs(stuck_holds(board, leans, (word,) + paper[1:]), False)

    def test_a_part_out_or_more(self):
        for board, leans, paper in self.each_paper():
            for changed in (paper[:-1], paper[1:], paper + ((),), paper + (None,), paper + paper[-1:], paper[:1], ()):
                self.assertIs(stuck_holds(board, leans, changed), False)

    def test_things_of_any_kind(self):
        for board, leans in ((MIXED, (0, 1)), (LEAST, ()), (SECOND, (0,)), (SECOND, (1,))):
            paper = stuck(board, leans)
            for thing in others() + [0, 1, (), "safe", "stuck", ("safe",), ("stuck",), paper]:
                papers = [
                    thing, (thing,) + paper[1:], ("safe", thing), ("safe", (leans, thing)), ("stuck", thing, paper[-1]),
                    ("stuck", (0, thing), paper[-1]), ("stuck", (0,), thing), ("stuck", (0,), ((leans, 0), thing)),
                    ("stuck", (0,), ((leans, 0), (thing, 0))), ("stuck", (0,), ((leans, 0), (leans, thing))),
                    ("stuck", (0, 0), ((leans, 0), (leans, thing))), ("stuck", (thing,), ((leans, 0),)),
                ]
                for changed in papers:
                    with self.subTest(thing=str(changed)[:60]):
                        self.assertIs(stuck_holds(board, leans, changed), model_holds(board, leans, changed))

    def test_feeders_that_the_board_has_not(self):
        for feeder in (1, 2, -1, 10 ** 59):
            self.assertIs(stuck_holds(SECOND, (1,), ("stuck", (feeder,), (((1,), 0),))), False)
            self.assertIs(stuck_holds(SECOND, (0,), ("stuck", (feeder, 0), (((0,), 0), ((1,), 1)))), False)

    def test_of_another_board_or_leans(self):
        self.assertIs(stuck_holds(SECOND, (1,), stuck(SECOND, (0,))), False)
        self.assertIs(stuck_holds(SECOND, (0,), stuck(SECOND, (1,))), False)
        self.assertIs(stuck_holds(chain(1), (0,), stuck(SECOND, (0,))), False)
        self.assertIs(stuck_holds(SECOND, (0,), stuck(chain(1), (0,))), False)


class Refused(unittest.TestCase):
    def asks(self):
        yield stuck
        for paper in (None, stuck(MIXED, (0, 1)), [], ("safe", ()), ("stuck", (0,), ())):
            yield lambda board, leans, paper=paper: stuck_holds(board, leans, paper)

    def test_no_board_comes_first(self):
        for ask in self.asks():
            for board in no_boards():
                for leans in ((0, 1), None, [0], (0, 2)):
                    with self.subTest(board=str(board)[:60]):
                        self.assertIs(refusal(ask, board, leans), NoBoard)

    def test_fault_comes_then(self):
        for ask in self.asks():
            for leans in ((0, 1), None, [0], (0, 2)):
                self.assertEqual(refusal(ask, FAULTY, leans), (Fault,) + FAULTY_AT)
                self.assertEqual(refusal(ask, with_place(FAULTY, 0, 0, "x"), leans), (Fault, 0, 0))

    def test_no_leans_comes_last(self):
        for ask in self.asks():
            for leans in no_leans() + [()]:
                with self.subTest(leans=str(leans)[:60]):
                    self.assertIs(refusal(ask, MIXED, leans), NoLeans)
            for leans in no_leans():
                self.assertIs(refusal(ask, LEAST, leans), NoLeans)

    def test_nothing_else_is_refused(self):
        for groups in range(9):
            board = plain_board(groups=groups)
            self.assertIsNone(refusal(stuck, board, (0,) * groups))
            for thing in others():
                self.assertIsNone(refusal(stuck_holds, board, (0,) * groups, thing))


class Unchanged(unittest.TestCase):
    def test_what_is_handed_in_stays(self):
        lists = [["safe", [[0, 1]]], ("safe", [(0, 1)]), ("stuck", [0], [[(0, 1), 0]]), ("stuck", (0,), [((0, 1), 0)])]
        for thing in others() + lists:
            before = copy.deepcopy(thing)
            stuck_holds(MIXED, (0, 1), thing)
            refusal(stuck, thing, thing)
            refusal(stuck, MIXED, thing)
            refusal(stuck_holds, MIXED, thing, thing)
            self.assertEqual(thing, before)

    def test_the_same_each_time(self):
        boards = [MIXED, SECOND, BY_ONE_FEEDER, chain(3), chain(3, blind=True)]
        boards = [(board, leans) for board in boards for leans in all_leans(board[1])]
        first = [stuck(board, leans) for board, leans in boards]
        for again in range(3):
            self.assertEqual([stuck(board, leans) for board, leans in boards[::-1]][::-1], first)
            for (board, leans), paper in zip(boards, first):
                self.assertIs(stuck_holds(board, leans, paper), True)


if __name__ == "__main__":
    unittest.main()
