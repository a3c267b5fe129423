"""alike [19], alike_holds [20], and what they refuse [2], [3], [4], [8]."""

import copy
import itertools
import random
import unittest

from ballrockers.boards import all_leans
from ballrockers.errors import Fault, NoBoard, NoFit, NoLeans, TooGreat
from ballrockers.likeness import alike, alike_holds
from ballrockers.runs import told
from samples import (
    FAULTY, FAULTY_AT, LEAST, MIXED, chain, changed_papers, digits_of, drawn, kinds_changed, model_ball,
    model_is_leans, no_boards, no_leans, number_kinds, others, plain_board, refusal, rolled_board, rolled_leans,
    rolled_turning_board, with_part, with_place,
)

# Its balls come out by 0 and by 1 in turns; those of the other one by 0 alone.
TURNS = chain(1)
STILL = drawn(".", doors=((0, 0),))
# Two feeders: one turns the rocker, the other one's ball comes out by 0 and turns nothing.
BY_ONE = with_part(chain(1), 3, (2, 0))


def by_two_feeders(groups, feeder, over=1):
    """A chain that balls of this feeder, 0 or 1, count by; those of the other one fall beside it."""
    board = chain(groups, over=over)
    beside = (board[3][0], 0)
    return with_part(board, 3, beside if feeder == 0 else beside[::-1])


def gone_through(board, leans, other, other_leans, most):
    """What alike tells but for its row, by all rows of at most so many balls; None where these don't suffice."""
    balls = {(leans, other_leans): 0}
    for many in range(1, most + 1):
        known = len(balls)
        for row in itertools.product(range(len(board[3])), repeat=many):
            names, behind = told(board, leans, row)
            other_names, other_behind = told(other, other_leans, row)
            if names != other_names:
                table = sorted(pair + (least,) for pair, least in balls.items() if least < many)
                return ("parted", many, tuple(table))
            balls.setdefault((behind, other_behind), many)
        if len(balls) == known:
            return ("alike", tuple(sorted(balls)))
    return None


def pair_by_pair(board, leans, other, other_leans):
    """What alike tells but for its row, by letting each ball of each pair fall by the model until nothing new comes."""
    balls = {(leans, other_leans): 0}
    many = 0
    while True:
        comings = []
        for (one, two), feeder in itertools.product(balls, range(len(board[3]))):
            name, call, behind = model_ball(board, one, feeder)
            other_name, other_call, other_behind = model_ball(other, two, feeder)
            comings.append((name == other_name, (behind, other_behind)))
        many += 1
        if not all(same for same, pair in comings):
            return ("parted", many, tuple(sorted(pair + (least,) for pair, least in balls.items())))
        known = len(balls)
        for same, pair in comings:
            balls.setdefault(pair, many)
        if len(balls) == known:
            return ("alike", tuple(sorted(balls)))


def model_holds(board, leans, other, other_leans, paper):
    """[20] word by word: whether the paper holds."""
    feeders = range(len(board[3]))
    if type(paper) is not tuple or not paper or paper[0] not in ("alike", "parted"):
        return False
    if len(paper) != {"alike": 2, "parted": 3}[paper[0]] or type(paper[-1]) is not tuple:
        return False
    table = paper[-1]
    wide = len(paper)
    for entry in table:
        if type(entry) is not tuple or len(entry) != wide:
            return False
        if not model_is_leans(board, entry[0]) or not model_is_leans(other, entry[1]):
            return False
        if wide == 3 and (type(entry[2]) is not int or entry[2] < 0):
            return False

    def both(pair, feeder):
        name, call, behind = model_ball(board, pair[0], feeder)
        other_name, other_call, other_behind = model_ball(other, pair[1], feeder)
        return name == other_name, (behind, other_behind)

    if paper[0] == "alike":
        comings = [both(pair, feeder) for pair in set(table) for feeder in feeders]
        return (leans, other_leans) in table and all(same and pair in table for same, pair in comings)
    row = paper[1]
    if type(row) is not tuple or not row or not all(type(feeder) is int and feeder in feeders for feeder in row):
        return False
    pair = (leans, other_leans)
    for ball, feeder in enumerate(row):
        same, pair = both(pair, feeder)
        if same != (ball < len(row) - 1):
            return False
    for one, two, balls in table:
        for feeder in feeders if balls < len(row) - 1 else ():
            same, behind = both((one, two), feeder)
            if not same or not any(entry[:2] == behind and entry[2] <= balls + 1 for entry in table):
                return False
    return (leans, other_leans, 0) in table


def rolled_two(dice, again):
    """Two boards by dice with as many feeders, and leans of both: the same, almost the same, or none like the other."""
    board = rolled_turning_board(dice, dice.randint(0, 3), dice.randint(1, 3), dice.randint(0, 1))
    board = with_part(board, 4, tuple((dice.choice((0, 0, 0, 1)), call) for name, call in board[4]))
    other = board
    if again % 4 == 1:
        doors = list(board[4])
        doors[dice.randrange(board[0])] = (dice.choice((0, 1, 2)), None)
        other = with_part(board, 4, tuple(doors))
    elif again % 4 == 2:
        row, column = dice.randrange(len(board[2])), dice.randrange(1, board[0] - 1)
        other = with_place(board, row, column, dice.choice((".", "x", "<", ">", "s")))
    elif again % 4 == 3:
        other = rolled_turning_board(dice, dice.randint(0, 2), len(board[3]))
        other = with_part(other, 4, tuple((0, call) for name, call in other[4]))
    leans = rolled_leans(dice, board)
    return board, leans, other, leans if other[1] == board[1] and again % 3 else rolled_leans(dice, other)


class Alike(unittest.TestCase):
    def is_told(self, asked, expected):
        """What is told is what is expected, which has how many balls there are in the place of a row."""
        answer = alike(*asked)
        self.assertIs(alike_holds(*asked, answer), True)
        if answer[0] == "alike":
            self.assertEqual(number_kinds(answer), number_kinds(expected))
            return
        word, row, table = answer
        self.assertEqual(number_kinds((word, len(row), table)), number_kinds(expected))
        self.assertIs(type(row), tuple)
        names, other_names = told(*asked[:2], row)[0], told(*asked[2:], row)[0]
        self.assertEqual(names[:-1], other_names[:-1])
        self.assertNotEqual(names[-1], other_names[-1])

    def test_no_rows_and_no_groups(self):
        self.assertEqual(alike(LEAST, (), LEAST, ()), ("alike", (((), ()),)))
        self.assertEqual(alike(LEAST, (), drawn(width=3, feeders=(0,)), ()), ("alike", (((), ()),)))
        other = with_part(LEAST, 4, ((1, 0),))
        self.assertEqual(alike(LEAST, (), other, ()), ("parted", (0,), (((), (), 0),)))

    def test_whatever_doors_call(self):
        other = with_part(LEAST, 4, ((0, None),))
        self.assertEqual(alike(LEAST, (), other, ()), ("alike", (((), ()),)))

    def test_itself(self):
        for board in (MIXED, chain(3), BY_ONE, plain_board()):
            for leans in all_leans(board[1]):
                word, table = alike(board, leans, board, leans)
                self.assertEqual(word, "alike")
                self.assertEqual([one for one, two in table], [two for one, two in table])
                self.assertIn((leans, leans), table)

    def test_other_leans(self):
        self.assertEqual(alike(TURNS, (0,), TURNS, (1,)), ("parted", (0,), (((0,), (1,), 0),)))
        self.assertEqual(alike(chain(2), (0, 0), chain(2), (1, 0)),
                         ("parted", (0,) * 3, (((0, 0), (1, 0), 0), ((0, 1), (1, 1), 2), ((1, 0), (0, 1), 1))))

    def test_leans_that_do_not_matter(self):
        board = drawn(".a.", "...", feeders=(1,), groups=2, doors=((5, 0), (0, 0), (5, 0)))
        self.assertEqual(alike(board, (0, 0), board, (1, 1)), ("alike", (((0, 0), (1, 1)), ((1, 0), (0, 1)))))

    def test_another_name(self):
        for name in (0, 1, 2, 99):
            other = with_part(TURNS, 4, TURNS[4][:1] + ((name, 0),) + TURNS[4][2:])
            answer = alike(TURNS, (0,), other, (0,))
            if name == 1:
                self.assertEqual(answer, ("alike", (((0,), (0,)), ((1,), (1,)))))
            else:
                self.assertEqual(answer, ("parted", (0, 0), (((0,), (0,), 0), ((1,), (1,), 1))))

    def test_another_piece(self):
        board = drawn("..a..", ".b...", ".....", feeders=(2,), doors=((1, 0), (0, 0), (0, 0), (0, 0), (0, 0)))
        self.assertEqual(alike(board, (0, 1), with_place(board, 2, 2, "<"), (0, 1))[0], "alike")
        self.assertEqual(alike(board, (0, 1), with_place(board, 2, 1, "<"), (0, 1))[0], "alike")
        word, row, table = alike(board, (0, 1), with_place(board, 1, 1, "<"), (0, 1))
        self.assertEqual((word, row), ("parted", (0,)))
        word, row, table = alike(board, (0, 0), with_place(board, 1, 1, "<"), (0, 0))
        self.assertEqual((word, row), ("parted", (0,) * 3))

    def test_groups_numbered_otherwise(self):
        board = chain(3)
        for order in itertools.permutations(range(3)):
            rows = tuple(tuple((order[piece[0]], piece[1]) if isinstance(piece, tuple) else piece for piece in places)
                         for places in board[2])
            word, table = alike(board, (0,) * 3, with_part(board, 2, rows), (0,) * 3)
            pairs = []
            for leans in all_leans(3):
                moved = [0] * 3
                for group in range(3):
                    moved[order[group]] = leans[group]
                pairs.append((leans, tuple(moved)))
            self.assertEqual((word, table), ("alike", tuple(sorted(pairs))))

    def test_both_stuck_by_the_same_ball(self):
        self.assertEqual(alike(drawn("s"), (), drawn("..", ".s", feeders=(1,)), ()), ("alike", (((), ()),)))
        board = chain(2, blind=True)
        word, table = alike(board, (0, 0), board, (0, 0))
        self.assertEqual((word, len(table)), ("alike", 4))
        other = chain(2, over=99)
        self.assertEqual(alike(board, (0, 0), other, (0, 0))[:2], ("parted", (0,) * 4))
        self.assertEqual(alike(other, (0, 0), board, (0, 0))[:2], ("parted", (0,) * 4))
        # One is stuck, the other one comes out by the name 0.
        self.assertEqual(alike(drawn("s"), (), LEAST, ()), ("parted", (0,), (((), (), 0),)))

    def test_behind_a_ball_that_is_stuck(self):
        # Both are stuck by the first ball; the second ones part them.
        one = drawn(".a.", "s..", feeders=(1,), doors=((0, 0), (0, 0), (1, 0)))
        other = drawn(".a.", "s..", feeders=(1,), doors=((0, 0), (0, 0), (2, 0)))
        self.assertEqual(alike(one, (0,), other, (0,)), ("parted", (0, 0), (((0,), (0,), 0), ((1,), (1,), 1))))

    def test_one_of_several_feeders(self):
        for feeder in range(4):
            feeders = tuple(int(at == feeder) for at in range(4))
            one = drawn("..", feeders=feeders, doors=((5, 0), (6, 0)))
            other = drawn("..", feeders=feeders, doors=((5, 0), (7, 0)))
            self.assertEqual(alike(one, (), other, ()), ("parted", (feeder,), (((), (), 0),)))

    def test_a_chain_against_an_empty_column(self):
        for groups in range(6):
            board = chain(groups)
            for other in (STILL, plain_board(1, 5, 2, 1)):
                other_leans = (1,) * other[1]
                word, row, table = alike(board, (0,) * groups, other, other_leans)
                self.assertEqual((word, row), ("parted", (0,) * 2 ** groups))
                expected = [(digits_of(number, groups), other_leans, number) for number in range(2 ** groups)]
                self.assertEqual(table, tuple(sorted(expected)))
                self.assertEqual(alike(other, other_leans, board, (0,) * groups),
                                 (word, row, tuple(sorted((two, one, many) for one, two, many in table))))

    def test_a_chain_whose_balls_all_have_one_name(self):
        word, table = alike(chain(5, over=0), (0,) * 5, STILL, ())
        self.assertEqual((word, table), ("alike", tuple((leans, ()) for leans in all_leans(5))))

    def test_the_most_pairs(self):
        one, other = by_two_feeders(5, 0, 0), by_two_feeders(5, 1, 0)
        word, table = alike(one, (0,) * 5, other, (0,) * 5)
        self.assertEqual((word, table), ("alike", tuple(itertools.product(all_leans(5), all_leans(5)))))
        self.assertIs(alike_holds(one, (0,) * 5, other, (0,) * 5, (word, table)), True)

    def test_many_balls_of_two_feeders(self):
        one, other = by_two_feeders(5, 0), by_two_feeders(5, 1)
        word, row, table = alike(one, (0,) * 5, other, (0,) * 5)
        self.assertEqual(word, "parted")
        self.assertIn(row, ((0,) * 32, (1,) * 32))
        expected = [(digits_of(by_one, 5), digits_of(by_other, 5), by_one + by_other)
                    for by_one in range(32) for by_other in range(32) if by_one + by_other < 32]
        self.assertEqual(table, tuple(sorted(expected)))
        self.assertIs(alike_holds(one, (0,) * 5, other, (0,) * 5, (word, row, table)), True)

    def test_all_short_rows(self):
        dice = random.Random(81)
        words = []
        for again in range(400):
            asked = rolled_two(dice, again)
            expected = gone_through(*asked, 5)
            if expected is not None:
                self.is_told(asked, expected)
                words.append((expected[0], len(expected[-1])))
        for word in ("alike", "parted"):
            self.assertGreater(len([1 for told_word, many in words if told_word == word and many >= 3]), 5, word)

    def test_pair_by_pair_by_the_model(self):
        dice = random.Random(82)
        longest, most = 0, 0
        for again in range(200):
            asked = rolled_two(dice, again)
            expected = pair_by_pair(*asked)
            self.is_told(asked, expected)
            if expected[0] == "parted":
                longest = max(longest, expected[1])
            else:
                most = max(most, len(expected[1]))
        self.assertGreater(longest, 3)
        self.assertGreater(most, 7)

    def test_greatest_boards(self):
        dice = random.Random(83)
        for again in range(4):
            board = rolled_board(dice, width=40, groups=5, rows=60, feeders=4)
            if again % 2:
                board = with_part(board, 4, tuple((0, 0) for column in range(40)))
            leans = rolled_leans(dice, board)
            for other_leans in (leans, rolled_leans(dice, board)):
                answer = alike(board, leans, board, other_leans)
                self.assertIs(alike_holds(board, leans, board, other_leans, answer), True)


class AlikeHolds(unittest.TestCase):
    """Two groups each, of which balls turn the first one alone; all names are 0."""

    board = drawn(".....", ".a.b.", feeders=(1,), doors=((0, 0),) * 5)
    pairs = (((0, 0), (0, 0)), ((1, 0), (1, 0)))
    more = (((0, 1), (0, 0)), ((1, 1), (1, 0)))

    def holds(self, table, leans=(0, 0), other_leans=(0, 0), other=None):
        other = self.board if other is None else other
        return alike_holds(self.board, leans, other, other_leans, ("alike", table))

    def test_what_alike_tells(self):
        self.assertEqual(alike(self.board, (0, 0), self.board, (0, 0)), ("alike", self.pairs))
        self.assertIs(self.holds(self.pairs), True)

    def test_in_any_order_and_twice(self):
        for table in itertools.permutations(self.pairs + self.pairs + self.pairs[:1]):
            self.assertIs(self.holds(table), True)

    def test_with_more_pairs(self):
        self.assertIs(self.holds(self.pairs + self.more), True)
        self.assertIs(self.holds(self.more + self.pairs), True)
        for one in self.more:
            self.assertIs(self.holds(self.pairs + (one,)), False)
        whole = tuple(itertools.product(all_leans(2), all_leans(2)))
        self.assertIs(self.holds(whole), True)
        for at in range(16):
            self.assertIs(self.holds(whole[:at] + whole[at + 1:]), False)

    def test_more_pairs_that_are_parted(self):
        pairs = (((0,), (0,)), ((1,), (1,)))
        self.assertIs(alike_holds(TURNS, (0,), TURNS, (0,), ("alike", pairs)), True)
        for more in ((((0,), (1,)),), (((1,), (0,)),), (((0,), (1,)), ((1,), (0,)))):
            self.assertIs(alike_holds(TURNS, (0,), TURNS, (0,), ("alike", pairs + more)), False)

    def test_without_the_told_leans(self):
        for table in ((), self.more, self.pairs[1:], self.more + self.pairs[1:]):
            self.assertIs(self.holds(table), False)
        self.assertIs(self.holds(self.pairs, (0, 0), (1, 0)), False)
        self.assertIs(self.holds(self.pairs, (0, 1), (0, 0)), False)

    def test_lacking_a_pair_behind(self):
        self.assertIs(self.holds(self.pairs[:1]), False)
        one, other = by_two_feeders(2, 0, 0), by_two_feeders(2, 1, 0)
        word, table = alike(one, (0, 0), other, (0, 0))
        self.assertEqual(len(table), 16)
        for at in range(16):
            paper = (word, table[:at] + table[at + 1:])
            self.assertIs(alike_holds(one, (0, 0), other, (0, 0), paper), False)

    def test_boards_that_are_parted(self):
        for table in ((), (((0,), ()),), (((0,), ()), ((1,), ()))):
            self.assertIs(alike_holds(TURNS, (0,), STILL, (), ("alike", table)), False)

    def test_the_leans_of_both_are_not_exchanged(self):
        other = drawn(".a.", feeders=(1,), doors=((0, 0),) * 3)
        pairs = (((0, 0), (0,)), ((1, 0), (1,)))
        self.assertIs(self.holds(pairs, (0, 0), (0,), other), True)
        self.assertIs(self.holds(tuple(pair[::-1] for pair in pairs), (0, 0), (0,), other), False)

    def test_unlike_groups(self):
        for thing in no_leans() + [()]:
            self.assertIs(self.holds(self.pairs + (((0, 0), thing),)), False)
            self.assertIs(self.holds(self.pairs + ((thing, (0, 0)),)), False)
            self.assertIs(self.holds(self.pairs + (thing,)), False)

    def test_parts_more_and_fewer(self):
        for pair in self.pairs:
            for part in (0, (), (0, 0), None):
                self.assertIs(self.holds(self.pairs + (pair + (part,),)), False)
            self.assertIs(self.holds(self.pairs + (pair[:1],)), False)


class PartedHolds(unittest.TestCase):
    """TURNS against STILL: the row (0, 0), and the table (((0,), (), 0), ((1,), (), 1))."""

    table = (((0,), (), 0), ((1,), (), 1))

    def holds(self, row, table, leans=(0,)):
        return alike_holds(TURNS, leans, STILL, (), ("parted", row, table))

    def test_what_alike_tells(self):
        self.assertEqual(alike(TURNS, (0,), STILL, ()), ("parted", (0, 0), self.table))
        self.assertIs(self.holds((0, 0), self.table), True)

    def test_in_any_order_and_twice(self):
        for table in itertools.permutations(self.table + self.table):
            self.assertIs(self.holds((0, 0), table), True)

    def test_unlike_numbers_of_the_same_pair(self):
        more = self.table + (((0,), (), 5), ((1,), (), 7), ((1,), (), 10 ** 59))
        for table in itertools.permutations(more):
            self.assertIs(self.holds((0, 0), table), True)
        # With 0 balls the pair must lead on, and its balls' names are unlike.
        self.assertIs(self.holds((0, 0), self.table + (((1,), (), 0),)), False)

    def test_two_balls_more(self):
        for many in (2, 3, 10 ** 59):
            self.assertIs(self.holds((0, 0), (((0,), (), 0), ((1,), (), many))), False)
        board = chain(3)
        word, row, table = alike(board, (0,) * 3, STILL, ())
        for at, (one, two, many) in enumerate(table):
            for changed in (((one, two, many + 1),), ((one, two, many + 2),), ()):
                paper = (word, row, table[:at] + changed + table[at + 1:])
                self.assertIs(alike_holds(board, (0,) * 3, STILL, (), paper), False)

    def test_without_the_told_leans(self):
        for table in ((), self.table[1:], (((0,), (), 1), ((1,), (), 1)), (((1,), (), 0),)):
            self.assertIs(self.holds((0, 0), table), False)
        self.assertIs(self.holds((0,), (((1,), (), 0),), (1,)), True)
        for table in ((), (((1,), (), 1),), (((0,), (), 0),)):
            self.assertIs(self.holds((0,), table, (1,)), False)

    def test_more_pairs(self):
        self.assertIs(self.holds((0,), (((1,), (), 0), ((0,), (), 0), ((0,), (), 9)), (1,)), True)
        board = drawn(".a.", "...", feeders=(1,), groups=2, doors=((0, 0), (0, 0), (1, 0)))
        table = (((0, 0), (), 0), ((1, 0), (), 1))
        for more, held in (
            ((((0, 1), (), 0), ((1, 1), (), 1)), True), ((((0, 1), (), 1),), True), ((((0, 1), (), 0),), False),
            ((((1, 1), (), 0), ((0, 1), (), 0)), False), ((((1, 1), (), 7),), True),
        ):
            self.assertIs(alike_holds(board, (0, 0), STILL, (), ("parted", (0, 0), table + more)), held)

    def test_parts_more_and_fewer(self):
        for entry in self.table:
            for other in (entry + (0,), entry + ((),), entry[:2], entry[1:], entry[::-1], entry[:2] + (None,)):
                self.assertIs(self.holds((0, 0), self.table + (other,)), False)

    def test_the_last_names_are_alike(self):
        for row in ((0,), (0, 0, 0), (0,) * 5):
            self.assertIs(self.holds(row, self.table), False)

    def test_earlier_names_are_unlike(self):
        for row in ((0,) * 4, (0,) * 6):
            self.assertIs(self.holds(row, self.table), False)
        self.assertIs(self.holds((0, 0), (((1,), (), 0), ((0,), (), 1)), (1,)), False)
        self.assertIs(self.holds((0, 0, 0), (((1,), (), 0), ((0,), (), 1)), (1,)), False)

    def test_an_empty_row(self):
        for leans in ((0,), (1,)):
            for table in ((), self.table, ((leans, (), 0),)):
                self.assertIs(self.holds((), table, leans), False)

    def test_numbers_below_none(self):
        for many in (-1, -2, -(10 ** 59)):
            self.assertIs(self.holds((0, 0), self.table + (((1,), (), many),)), False)
            self.assertIs(self.holds((0, 0), self.table + (((0,), (), many),)), False)
            self.assertIs(self.holds((0,), (((1,), (), 0), ((0,), (), many)), (1,)), False)

    def test_boards_that_are_alike(self):
        for row in ((0,), (0, 0), (0,) * 2001):
            paper = ("parted", row, (((0,), (0,), 0), ((1,), (1,), 1)))
            self.assertIs(alike_holds(TURNS, (0,), TURNS, (0,), paper), False)

    def test_no_row_beyond_the_shortest(self):
        # A ball of feeder 1 does nothing: rows of any length end by unlike names, the last ones alone.
        other = with_part(STILL, 3, (0, 0))
        for many in (0, 1, 2, 1998, 1999, 2000, 2001, 15000):
            row = (1,) * many + (0, 0)
            for table in (self.table, self.table + (((0,), (), many),), self.table + (((1,), (), many + 1),)):
                paper = ("parted", row, table)
                self.assertIs(alike_holds(BY_ONE, (0,), other, (), paper), many == 0)
            moved = tuple((one, two, balls + many) for one, two, balls in self.table)
            self.assertIs(alike_holds(BY_ONE, (0,), other, (), ("parted", row, moved + self.table[:1])), many == 0)


class Papers(unittest.TestCase):
    def each_paper(self):
        dice = random.Random(84)
        yield (LEAST, (), LEAST, ()), alike(LEAST, (), LEAST, ())
        for asked in (
            (TURNS, (0,), STILL, ()), (TURNS, (0,), TURNS, (0,)), (MIXED, (0, 1), MIXED, (0, 1)),
            (MIXED, (0, 1), MIXED, (1, 1)), (chain(2), (0, 0), STILL, ()), (drawn("s"), (), drawn("s"), ()),
        ):
            yield asked, alike(*asked)
        for again in range(25):
            asked = rolled_two(dice, again)
            yield asked, alike(*asked)

    def test_what_alike_tells(self):
        for asked, paper in self.each_paper():
            self.assertIs(alike_holds(*asked, paper), True)

    def test_changed_papers(self):
        held = 0
        for asked, paper in self.each_paper():
            for changed in changed_papers(paper):
                answer = alike_holds(*asked, changed)
                self.assertIs(answer, model_holds(*asked, changed), changed)
                # What is let by is true: it says what alike says.
                if answer:
                    held += 1
                    self.assertEqual(changed[0], paper[0])
                    if paper[0] == "parted":
                        self.assertEqual(len(changed[1]), len(paper[1]))
        self.assertGreater(held, 20)

    def test_papers_by_dice(self):
        dice = random.Random(85)
        held = []
        for again in range(2500):
            asked = rolled_two(dice, again)
            own = alike(*asked)
            paper = self.rolled_paper(dice, asked, own)
            answer = alike_holds(*asked, paper)
            self.assertIs(answer, model_holds(*asked, paper), (asked, paper))
            if answer:
                held.append(len(paper[1]) if paper[0] == "parted" else 0)
                self.assertEqual(own[0], paper[0])
        for length in (0, 1, 2):
            self.assertGreater(held.count(length), 5, length)
        self.assertLess(len(held), 2300)

    def rolled_paper(self, dice, asked, paper):
        """The paper with some entries out and some more, in another order; some with another row."""
        board, leans, other, other_leans = asked
        table = [entry for entry in paper[-1] if dice.random() < 0.95]
        for entry in range(dice.randint(0, 3)):
            pair = (rolled_leans(dice, board), rolled_leans(dice, other))
            table.append(pair if paper[0] == "alike" else pair + (dice.randint(0, len(paper[1])),))
        dice.shuffle(table)
        if paper[0] == "alike":
            return ("alike", tuple(table))
        row = paper[1]
        if dice.random() < 0.3:
            row = tuple(dice.randrange(len(board[3])) for ball in range(len(row) + dice.randint(-1, 1)))
        return ("parted", row, tuple(table))

    def test_kinds(self):
        for asked, paper in self.each_paper():
            for changed in kinds_changed(paper):
                self.assertIs(alike_holds(*asked, changed), False, changed)

    def test_words(self):
        for asked, paper in self.each_paper():
            for word in ("safe", "stuck", "", "Alike", "parted ", ("alike",), ["parted"], None, 0, True):
                self.assertIs(alike_holds(*asked, (word,) + paper[1:]), False)
            word = {"alike": "parted", "parted": "alike"}[paper[0]]
            self.assertIs(alike_holds(*asked, (word,) + paper[1:]), False)

    def test_a_part_out_or_more(self):
        for asked, paper in self.each_paper():
            for changed in (paper[:-1], paper[1:], paper + ((),), paper + (None,), paper + paper[-1:], paper[:1], ()):
                self.assertIs(alike_holds(*asked, changed), False)

    def test_things_of_any_kind(self):
        for asked in ((MIXED, (0, 1), MIXED, (0, 1)), (LEAST, (), LEAST, ()), (TURNS, (0,), STILL, ()),
                      (TURNS, (1,), STILL, ())):
            paper = alike(*asked)
            pair = (asked[1], asked[3])
            for thing in others() + [0, 1, (), "alike", "parted", ("alike",), ("parted",), paper]:
                papers = [
                    thing, (thing,) + paper[1:], ("alike", thing), ("alike", (pair, thing)),
                    ("alike", (pair, (thing, pair[1]))), ("alike", (pair, (pair[0], thing))),
                    ("parted", thing, paper[-1]), ("parted", (0, thing), paper[-1]), ("parted", (0,), thing),
                    ("parted", (0,), (pair + (0,), thing)), ("parted", (0,), (pair + (0,), pair + (thing,))),
                    ("parted", (0, 0), (pair + (0,), pair + (thing,))), ("parted", (thing,), (pair + (0,),)),
                    ("parted", (0,), (pair + (0,), (thing, pair[1], 0))), ("parted", (0,), (pair + (thing,),)),
                ]
                for changed in papers:
                    with self.subTest(thing=str(changed)[:60]):
                        self.assertIs(alike_holds(*asked, changed), model_holds(*asked, changed))

    def test_where_alike_is_refused(self):
        # The table would bear it, were it not for the feeders or the groups.
        still = with_part(STILL, 3, (0, 0))
        pairs = (((0,), ()), ((1,), ()))
        for over, held in ((0, False), (1, False)):
            self.assertIs(alike_holds(chain(1, over=over), (0,), still, (), ("alike", pairs)), held)
        self.assertIs(alike_holds(chain(1, over=0), (0,), STILL, (), ("alike", pairs)), True)
        for groups, other_groups in ((6, 0), (0, 6), (6, 6), (5, 6), (6, 5), (8, 8), (5, 5)):
            one, other = plain_board(3, groups, 1, 1), plain_board(3, other_groups, 1, 1)
            leans, other_leans = (0,) * groups, (0,) * other_groups
            held = max(groups, other_groups) <= 5
            self.assertIs(alike_holds(one, leans, other, other_leans, ("alike", ((leans, other_leans),))), held)
            other = with_part(other, 4, ((1, 0),) * 3)
            paper = ("parted", (0,), ((leans, other_leans, 0),))
            self.assertIs(alike_holds(one, leans, other, other_leans, paper), held)


class Refused(unittest.TestCase):
    def asks(self):
        yield alike
        for paper in (None, alike(MIXED, (0, 1), MIXED, (0, 1)), [], ("alike", ()), ("parted", (0,), ())):
            yield lambda *things, paper=paper: alike_holds(*things, paper)

    rests = (((0, 1), MIXED, (0, 1)), (None, MIXED, (0, 1)), ((0, 1), None, (0, 1)), ((0, 1), FAULTY, (0, 1)),
             ((0, 1), MIXED, None), ((0, 1), LEAST, ()), ((0, 1), plain_board(3, 8, 1, 4), (0,) * 8), ([], LEAST, []))

    def test_no_board_of_the_one_comes_first(self):
        for ask in self.asks():
            for board in no_boards():
                for rest in self.rests:
                    with self.subTest(board=str(board)[:60]):
                        self.assertIs(refusal(ask, board, *rest), NoBoard)

    def test_fault_of_the_one_comes_then(self):
        for ask in self.asks():
            for rest in self.rests:
                self.assertEqual(refusal(ask, FAULTY, *rest), (Fault,) + FAULTY_AT)
                self.assertEqual(refusal(ask, with_place(FAULTY, 0, 0, "x"), *rest), (Fault, 0, 0))

    def test_no_board_of_the_other_comes_then(self):
        for ask in self.asks():
            for other in no_boards():
                for leans, other_leans in (((0, 1), (0, 1)), (None, (0, 1)), ((0, 1), None), ([], [])):
                    with self.subTest(other=str(other)[:60]):
                        self.assertIs(refusal(ask, MIXED, leans, other, other_leans), NoBoard)

    def test_fault_of_the_other_comes_then(self):
        for ask in self.asks():
            for leans, other_leans in (((0, 1), (0, 1)), (None, (0, 1)), ((0, 1), None), ([], [])):
                self.assertEqual(refusal(ask, MIXED, leans, FAULTY, other_leans), (Fault,) + FAULTY_AT)
                self.assertEqual(refusal(ask, LEAST, leans, FAULTY, other_leans), (Fault,) + FAULTY_AT)

    def test_no_leans_come_then(self):
        great = plain_board(3, 6, 1, 2)
        for ask in self.asks():
            for leans in no_leans() + [()]:
                for other, other_leans in ((MIXED, (0, 1)), (MIXED, None), (LEAST, ()), (great, (0,) * 6)):
                    with self.subTest(leans=str(leans)[:60]):
                        self.assertIs(refusal(ask, MIXED, leans, other, other_leans), NoLeans)
                        self.assertIs(refusal(ask, other, other_leans, MIXED, leans), NoLeans)

    def test_each_ones_own_leans(self):
        for ask in self.asks():
            self.assertIs(refusal(ask, MIXED, (0,), plain_board(3, 1), (0, 1)), NoLeans)
            self.assertIs(refusal(ask, MIXED, (0, 1), plain_board(3, 1), (0, 1)), NoLeans)
            self.assertIs(refusal(ask, MIXED, (0,), plain_board(3, 1), (0,)), NoLeans)
            self.assertIsNone(refusal(ask, MIXED, (0, 1), plain_board(3, 1), (0,)))

    def test_no_fit(self):
        for feeders in range(1, 5):
            for other in range(1, 5):
                for groups, other_groups in ((0, 0), (5, 5), (6, 0), (0, 6), (8, 8)):
                    one, two = plain_board(3, groups, 1, feeders), plain_board(3, other_groups, 1, other)
                    asked = (one, (0,) * groups, two, (1,) * other_groups)
                    expected = TooGreat if max(groups, other_groups) > 5 else None
                    self.assertIs(refusal(alike, *asked), NoFit if feeders != other else expected)
                    self.assertIsNone(refusal(alike_holds, *asked, None))

    def test_too_great(self):
        for groups in range(9):
            for other in range(9):
                one, two = plain_board(3, groups, 1, 1), plain_board(3, other, 1, 1)
                answer = refusal(alike, one, (0,) * groups, two, (0,) * other)
                self.assertIs(answer, TooGreat if groups > 5 or other > 5 else None)

    def test_the_checker_refuses_nothing_else(self):
        for thing in others():
            self.assertIsNone(refusal(alike_holds, MIXED, (0, 1), MIXED, (0, 1), thing))
            self.assertIsNone(refusal(alike_holds, MIXED, (0, 1), LEAST, (), thing))


class Unchanged(unittest.TestCase):
    def test_what_is_handed_in_stays(self):
        lists = [["alike", [[(0, 1), (0, 1)]]], ("alike", [((0, 1), (0, 1))]), ("parted", [0], [[(0, 1), (0, 1), 0]])]
        for thing in others() + lists:
            before = copy.deepcopy(thing)
            alike_holds(MIXED, (0, 1), MIXED, (0, 1), thing)
            for things in ((thing,) * 4, (MIXED, thing, MIXED, thing), (MIXED, (0, 1), thing, thing)):
                refusal(alike, *things)
                refusal(alike_holds, *things, thing)
            self.assertEqual(thing, before)

    def test_the_same_each_time(self):
        dice = random.Random(86)
        asked = [rolled_two(dice, again) for again in range(40)]
        first = [alike(*things) for things in asked]
        for again in range(2):
            self.assertEqual([alike(*things) for things in asked[::-1]][::-1], first)
            for things, paper in zip(asked, first):
                self.assertIs(alike_holds(*things, paper), True)


if __name__ == "__main__":
    unittest.main()
