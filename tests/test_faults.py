"""broken [29], faults_told [31], and what they refuse [3], [4], [8]."""

import copy
import itertools
import random
import unittest

from ballrockers.boards import all_leans
from ballrockers.errors import Fault, NoBoard, NoFault, NoLeans, NoNames, NoRow
from ballrockers.faults import broken, faults_told
from ballrockers.runs import told
from ballrockers.ways import fallen
from samples import (
    FAULTY, FAULTY_AT, LEAST, MIXED, chain, drawn, kinds_changed, model_told, no_boards, no_leans, no_rows,
    number_kinds, others, plain_board, refusal, rolled_board, rolled_leans, rolled_turning_board, with_part, with_place,
)

# Counts by two digits: 3, 0, 0, 0, and again.
COUNTING = drawn("..a..", ".b...", feeders=(2,), doors=((3, 0), (5, 0), (0, 0), (1, 0), (5, 0)))
# Group 0 is met by feeder 0's balls, group 1 by feeder 1's; no ball meets group 2.
APART = drawn(".a..b..c.", feeders=(1, 4))


def faults_of(board):
    """All faults of the board."""
    return [None] + list(range(board[1]))


def with_ramps(board, leans, group):
    """The board with ramps in the place of the group's rockers, which lead as these lean."""
    def ramp(piece):
        if isinstance(piece, tuple) and piece[0] == group:
            return "<" if leans[group] == piece[1] else ">"
        return piece
    return with_part(board, 2, tuple(tuple(ramp(piece) for piece in places) for places in board[2]))


def each_asked(seed, many=150):
    """Boards, leans and rows by dice."""
    dice = random.Random(seed)
    for again in range(many):
        if again % 2:
            board = rolled_board(dice)
        else:
            board = rolled_turning_board(dice, dice.randint(1, 8), dice.randint(1, 4), again % 3)
        yield board, rolled_leans(dice, board), tuple(dice.randrange(len(board[3])) for ball in range(dice.randint(0, 20)))


class Broken(unittest.TestCase):
    def test_none_is_told(self):
        for board, leans, row in each_asked(41):
            self.assertEqual(number_kinds(broken(board, leans, None, row)), number_kinds(told(board, leans, row)))

    def test_it_leads_as_it_leans(self):
        self.assertEqual(broken(COUNTING, (0, 0), None, (0,) * 5), ((3, 1, 0, 1, 3), (1, 1)))
        self.assertEqual(broken(COUNTING, (0, 0), 0, (0,) * 5), ((3, 0, 3, 0, 3), (0, 1)))
        self.assertEqual(broken(COUNTING, (1, 0), 0, (0,) * 5), ((1,) * 5, (1, 0)))
        self.assertEqual(broken(COUNTING, (0, 0), 1, (0,) * 5), ((3, 1, 3, 1, 3), (1, 0)))
        self.assertEqual(broken(COUNTING, (1, 1), 1, (0,) * 5), ((1, 0, 1, 0, 1), (0, 1)))

    def test_it_is_not_turned(self):
        self.assertEqual(fallen(COUNTING, (0, 0), 0), ((2, 1, 0), (0, 1), (1, 1)))
        self.assertEqual(fallen(COUNTING, (0, 0), 0, 0), ((2, 1, 0), (1,), (0, 1)))
        self.assertEqual(fallen(COUNTING, (0, 0), 0, 1), ((2, 1, 0), (0,), (1, 0)))

    def test_both_sides_of_one_group(self):
        board = drawn(".a..A.", feeders=(1, 4))
        for leans, names in (((0,), (0, 5)), ((1,), (2, 3))):
            self.assertEqual(broken(board, leans, 0, (0, 1, 0, 1)), (names * 2, leans))

    def test_met_twice_by_one_ball(self):
        board = drawn("..a..", "...<.", "..a..", feeders=(2,))
        self.assertEqual(broken(board, (1,), None, (0,)), ((1,), (1,)))
        self.assertEqual(broken(board, (1,), 0, (0, 0)), ((3, 3), (1,)))
        self.assertEqual(broken(board, (0,), 0, (0, 0)), ((1, 1), (0,)))

    def test_the_other_groups_turn_as_ever(self):
        self.assertEqual(broken(APART, (0, 0, 0), None, (0, 1, 0, 1, 1)), ((0, 3, 2, 5, 3), (0, 1, 0)))
        self.assertEqual(broken(APART, (0, 0, 0), 0, (0, 1, 0, 1, 1)), ((0, 3, 0, 5, 3), (0, 1, 0)))
        self.assertEqual(broken(APART, (0, 0, 0), 1, (0, 1, 0, 1, 1)), ((0, 3, 2, 3, 3), (0, 0, 0)))

    def test_a_group_none_of_whose_rockers_is_met(self):
        for leans in all_leans(3):
            for row in itertools.product((0, 1), repeat=4):
                self.assertEqual(broken(APART, leans, 2, row), told(APART, leans, row))
        # A group without a rocker.
        for fault in range(8):
            self.assertEqual(broken(plain_board(groups=8), (1,) * 8, fault, (0, 1)), ((0, 0), (1,) * 8))

    def test_balls_that_are_stuck(self):
        board = drawn(".a.", "s..", feeders=(1,), doors=((1, 0), (2, 0), (3, 0)))
        self.assertEqual(broken(board, (0,), None, (0,) * 3), ((None, 3, None), (1,)))
        self.assertEqual(broken(board, (0,), 0, (0,) * 3), ((None,) * 3, (0,)))
        self.assertEqual(broken(board, (1,), 0, (0,) * 3), ((3,) * 3, (1,)))

    def test_no_balls(self):
        for fault in faults_of(MIXED):
            for leans in all_leans(2):
                self.assertEqual(broken(MIXED, leans, fault, ()), ((), leans))
        self.assertEqual(broken(LEAST, (), None, ()), ((), ()))

    def test_two_thousand_balls(self):
        board = chain(8)
        self.assertEqual(broken(board, (0,) * 8, None, (0,) * 2000), told(board, (0,) * 8, (0,) * 2000))
        self.assertEqual(broken(board, (1,) + (0,) * 7, 0, (0,) * 2000),
                         (tuple(int(ball % 128 == 127) for ball in range(2000)), (1,) + told(chain(7), (0,) * 7, (0,) * 2000)[1]))
        self.assertEqual(broken(board, (0,) * 8, 0, (0,) * 2000), ((0,) * 2000, (0,) * 8))

    def test_two_thousand_balls_on_the_greatest_board(self):
        dice = random.Random(42)
        board = rolled_board(dice, width=40, groups=8, rows=60, feeders=4)
        leans = rolled_leans(dice, board)
        row = tuple(dice.randrange(4) for ball in range(2000))
        for fault in (None, 0, 7):
            self.assertEqual(broken(board, leans, fault, row), model_told(board, leans, row, fault))

    def test_by_the_model(self):
        for board, leans, row in each_asked(43):
            for fault in faults_of(board):
                answer = broken(board, leans, fault, row)
                self.assertEqual(number_kinds(answer), number_kinds(model_told(board, leans, row, fault)))
                if fault is not None:
                    self.assertEqual(answer[1][fault], leans[fault])

    def test_ramps_do_the_same(self):
        for board, leans, row in each_asked(44):
            for group in range(board[1]):
                self.assertEqual(broken(board, leans, group, row), told(with_ramps(board, leans, group), leans, row))


class FaultsTold(unittest.TestCase):
    def test_no_rows_at_all(self):
        for board in (LEAST, MIXED, APART, chain(8)):
            self.assertEqual(faults_told(board, (0,) * board[1], (), ()), tuple(faults_of(board)))

    def test_rows_of_no_balls(self):
        self.assertEqual(faults_told(MIXED, (0, 1), ((), ()), ((), ())), (None, 0, 1))
        for answers in (((), (0,)), ((None,), ()), ((7,), (7,))):
            self.assertEqual(faults_told(MIXED, (0, 1), ((), ()), answers), ())

    def test_one_fault(self):
        row = (0,) * 4
        for fault, names in ((None, (3, 1, 0, 1)), (0, (3, 0, 3, 0)), (1, (3, 1, 3, 1))):
            self.assertEqual(faults_told(COUNTING, (0, 0), (row,), (names,)), (fault,))

    def test_several_faults(self):
        self.assertEqual(faults_told(COUNTING, (0, 0), ((0,),), ((3,),)), (None, 0, 1))
        self.assertEqual(faults_told(COUNTING, (0, 0), ((0, 0),), ((3, 1),)), (None, 1))
        self.assertEqual(faults_told(APART, (0, 0, 0), ((0, 0),), ((0, 2),)), (None, 1, 2))
        self.assertEqual(faults_told(APART, (0, 0, 0), ((0, 0), (1, 1)), ((0, 2), (3, 5))), (None, 2))

    def test_none_tells_it(self):
        for names in ((1,), (99,), (None,), (0,)):
            self.assertEqual(faults_told(COUNTING, (0, 0), ((0,),), (names,)), ())
        self.assertEqual(faults_told(APART, (0, 0, 0), ((0, 0), (1, 1)), ((0, 0), (3, 3))), ())

    def test_each_row_is_begun_from_the_told_leans(self):
        # In one row behind the other they'd tell 3, 1 and 0, 1.
        self.assertEqual(faults_told(COUNTING, (0, 0), ((0, 0), (0, 0)), ((3, 1), (3, 1))), (None, 1))
        self.assertEqual(faults_told(COUNTING, (0, 0), ((0, 0), (0, 0)), ((3, 1), (0, 1))), ())

    def test_answers_longer_and_shorter(self):
        for row, names in (((0, 0), (3, 1)), ((0,), (3,)), ((), ())):
            right = faults_told(COUNTING, (0, 0), (row,), (names,))
            self.assertIn(None, right)
            for other in (names + (0,), names + (None,), names + names + (3,), names[:-1]):
                expected = right if other == names else ()
                self.assertEqual(faults_told(COUNTING, (0, 0), (row,), (other,)), expected)
                self.assertEqual(faults_told(COUNTING, (0, 0), (row, (0,)), (other, (3,))), expected)
                self.assertEqual(faults_told(COUNTING, (0, 0), ((0,), row), ((3,), other)), expected)

    def test_none_for_a_ball_that_is_stuck(self):
        board = drawn(".a.", "s..", feeders=(1,), doors=((1, 0), (2, 0), (3, 0)))
        self.assertEqual(faults_told(board, (0,), ((0, 0),), ((None, 3),)), (None,))
        self.assertEqual(faults_told(board, (0,), ((0, 0),), ((None, None),)), (0,))
        self.assertEqual(faults_told(board, (0,), ((0, 0),), ((0, 3),)), ())
        # No group is broken, and none is told of that fault.
        self.assertEqual(faults_told(drawn("s"), (), ((0,),), ((None,),)), (None,))

    def test_by_broken(self):
        dice = random.Random(45)
        found = set()
        for board, leans, row in each_asked(46):
            rows = (row,) + tuple(tuple(dice.randrange(len(board[3])) for ball in range(dice.randint(0, 6)))
                                  for more in range(dice.randint(0, 3)))
            for seen in faults_of(board):
                answers = tuple(broken(board, leans, seen, asked)[0] for asked in rows)
                expected = tuple(fault for fault in faults_of(board)
                                 if all(model_told(board, leans, asked, fault)[0] == names
                                        for asked, names in zip(rows, answers)))
                answer = faults_told(board, leans, rows, answers)
                self.assertEqual(number_kinds(answer), number_kinds(expected))
                self.assertIn(seen, answer)
                found.add(len(answer))
        self.assertGreater(len(found), 4)

    def test_the_same_rows_twice(self):
        self.assertEqual(faults_told(COUNTING, (0, 0), ((0,) * 4,) * 3, ((3, 1, 0, 1),) * 3), (None,))
        self.assertEqual(faults_told(COUNTING, (0, 0), ((0,) * 4,) * 2, ((3, 1, 0, 1), (3, 0, 3, 0))), ())

    def test_many_balls_on_the_greatest_board(self):
        dice = random.Random(47)
        board = rolled_board(dice, width=40, groups=8, rows=60, feeders=4)
        leans = rolled_leans(dice, board)
        rows = tuple(tuple(dice.randrange(4) for ball in range(2000)) for row in range(5))
        answers = tuple(told(board, leans, row)[0] for row in rows)
        self.assertIn(None, faults_told(board, leans, rows, answers))
        self.assertEqual(faults_told(board, leans, ((),) * 19000, ((),) * 19000), (None,) + tuple(range(8)))


class BrokenRefused(unittest.TestCase):
    rests = (((0, 1), 0, (0,)), (None, 0, (0,)), ((0, 1), 2, (0,)), ((0, 1), 0, None), ([0], "0", [0]), ((0,), -1, (2,)))

    def no_faults(self):
        return [thing for thing in others() if thing is not None] + [
            2, 3, 8, -1, True, False, "0", "None", [0], (0,), (), (None,), 10 ** 59, -(10 ** 59)]

    def test_no_board_comes_first(self):
        for board in no_boards():
            for rest in self.rests:
                with self.subTest(board=str(board)[:60]):
                    self.assertIs(refusal(broken, board, *rest), NoBoard)

    def test_fault_of_the_board_comes_then(self):
        for rest in self.rests:
            self.assertEqual(refusal(broken, FAULTY, *rest), (Fault,) + FAULTY_AT)
            self.assertEqual(refusal(broken, with_place(FAULTY, 0, 0, "x"), *rest), (Fault, 0, 0))

    def test_no_leans_comes_then(self):
        for leans in no_leans() + [()]:
            for fault, row in ((0, (0,)), (None, ()), (2, (0,)), (True, [0]), (0, (2,))):
                with self.subTest(leans=str(leans)[:60]):
                    self.assertIs(refusal(broken, MIXED, leans, fault, row), NoLeans)

    def test_no_fault_comes_then(self):
        for fault in self.no_faults():
            for row in ((), (0, 1), [0], (2,), None, (0,) * 2001):
                with self.subTest(fault=str(fault)[:60]):
                    self.assertIs(refusal(broken, MIXED, (0, 1), fault, row), NoFault)

    def test_no_row_comes_last(self):
        for row in no_rows(2000):
            for fault in (None, 0, 1):
                with self.subTest(row=str(row)[:60]):
                    self.assertIs(refusal(broken, MIXED, (0, 1), fault, row), NoRow)

    def test_just_at_the_bounds(self):
        for groups in range(9):
            board = plain_board(groups=groups)
            for fault in range(-2, 11):
                expected = None if 0 <= fault < groups else NoFault
                self.assertIs(refusal(broken, board, (0,) * groups, fault, ()), expected)
            self.assertIsNone(refusal(broken, board, (0,) * groups, None, ()))
        for many, refused in ((0, None), (1, None), (2000, None), (2001, NoRow)):
            self.assertIs(refusal(broken, MIXED, (0, 1), 1, (0,) * many), refused)


class FaultsToldRefused(unittest.TestCase):
    rests = (((0, 1), ((0,),), ((7,),)), (None, ((0,),), ((7,),)), ((0, 1), None, ((7,),)), ((0, 1), ((0,),), None),
             ([0], [0], [0]), ((0,), ((2,),), ((100,),)))

    def wrong_rows(self):
        """Things that are no tuple of rows."""
        for thing in others() + [0, 1]:
            if not isinstance(thing, tuple):
                yield thing
        for row in no_rows(2000):
            yield (row,)
            yield ((0, 1), row)
            yield (row, (), (1,))

    def wrong_answers(self, many):
        """Things that are no tuple of so many tuples of names and None."""
        yield 0
        yield ((),) * (many - 1) + (1,)
        for thing in others():
            if not isinstance(thing, tuple):
                yield thing
                yield ((),) * (many - 1) + (thing,)
            if thing is not None:
                yield ((),) * (many - 1) + ((thing,),)
                yield ((7, thing, None),) + ((),) * (many - 1)
        for name in (100, -1, True, False, "7", "", (7,), [7], 10 ** 59):
            yield ((),) * (many - 1) + ((name,),)
            yield ((0, name),) + ((),) * (many - 1)
        for other in range(5):
            if other != many:
                yield ((),) * other
                yield ((7, None),) * other
        yield [(7,)] * many
        yield ([7],) * many

    def test_no_board_comes_first(self):
        for board in no_boards():
            for rest in self.rests:
                with self.subTest(board=str(board)[:60]):
                    self.assertIs(refusal(faults_told, board, *rest), NoBoard)

    def test_fault_of_the_board_comes_then(self):
        for rest in self.rests:
            self.assertEqual(refusal(faults_told, FAULTY, *rest), (Fault,) + FAULTY_AT)

    def test_no_leans_comes_then(self):
        for leans in no_leans() + [()]:
            for leaning_rest in self.rests:
                with self.subTest(leans=str(leans)[:60]):
                    self.assertIs(refusal(faults_told, MIXED, leans, *leaning_rest[1:]), NoLeans)

    def test_no_row_comes_then(self):
        for rows in self.wrong_rows():
            for answers in ((), ((7,),), ((), ()), None, [], ((100,),)):
                with self.subTest(rows=str(rows)[:60]):
                    self.assertIs(refusal(faults_told, MIXED, (0, 1), rows, answers), NoRow)

    def test_no_names_comes_last(self):
        for rows in (((0,),), ((0, 1), ()), ((), (1,), (0, 0, 0))):
            for answers in self.wrong_answers(len(rows)):
                with self.subTest(answers=str(answers)[:60]):
                    self.assertIs(refusal(faults_told, MIXED, (0, 1), rows, answers), NoNames)
        for answers in (None, [], {}, "", 0, ((),), (None,)):
            self.assertIs(refusal(faults_told, MIXED, (0, 1), (), answers), NoNames)

    def test_kinds(self):
        rows, answers = ((0, 1), (1,)), ((7, None), (0,))
        self.assertIsNone(refusal(faults_told, MIXED, (0, 1), rows, answers))
        for changed in kinds_changed(rows):
            self.assertIs(refusal(faults_told, MIXED, (0, 1), changed, answers), NoRow)
        for changed in kinds_changed(answers):
            self.assertIs(refusal(faults_told, MIXED, (0, 1), rows, changed), NoNames)

    def test_just_at_the_bounds(self):
        for name in range(-2, 103):
            expected = None if 0 <= name <= 99 else NoNames
            self.assertIs(refusal(faults_told, MIXED, (0, 1), ((0,),), ((name,),)), expected)
        for many, refused in ((0, None), (2000, None), (2001, NoRow)):
            self.assertIs(refusal(faults_told, LEAST, (), ((0,) * many,), ((0,) * many,)), refused)
        # An answer may be of any length.
        self.assertEqual(faults_told(LEAST, (), ((0,),), ((0,) * 15000,)), ())


class Unchanged(unittest.TestCase):
    def test_what_is_handed_in_stays(self):
        for thing in others() + [[[0, 1], [0]], ([0], (0,)), [0, 1, 0]]:
            before = copy.deepcopy(thing)
            for things in (
                (thing,) * 4, (MIXED, thing, thing, thing), (MIXED, (0, 1), thing, thing), (MIXED, (0, 1), 0, thing),
                (MIXED, (0, 1), ((0,),), thing), (MIXED, (0, 1), (thing,), (thing,)), (MIXED, (0, 1), ((0,),), (thing,)),
            ):
                refusal(broken, *things)
                refusal(faults_told, *things)
            self.assertEqual(thing, before)

    def test_the_same_each_time(self):
        asked = list(each_asked(48, 40))

        def answers():
            for board, leans, row in asked:
                for fault in faults_of(board):
                    yield broken(board, leans, fault, row)
                yield faults_told(board, leans, (row,), (told(board, leans, row)[0],))

        first = list(answers())
        for again in range(2):
            self.assertEqual(list(answers()), first)


if __name__ == "__main__":
    unittest.main()
