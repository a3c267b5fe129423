"""told [12] and called [13], and what they refuse [4], [8]."""

import copy
import random
import unittest

from ballrockers.boards import all_leans, is_leans, is_stand
from ballrockers.errors import Fault, NoBoard, NoLeans, NoNumber, NoRow, NoStand
from ballrockers.runs import called, told
from samples import (
    FAULTY, FAULTY_AT, LEAST, MIXED, drawn, model_called, model_told, no_boards, no_leans, no_numbers, no_rows,
    no_stands, number_kinds, others, plain_board, refusal, rolled_board, rolled_leans, with_part,
)

# Counts by two digits: 3, 0, 0, 0, and again.
COUNTING = drawn("..a..", ".b...", feeders=(2,), doors=((3, 0), (5, 0), (0, 0), (0, 0), (5, 0)))


class Told(unittest.TestCase):
    def test_no_balls(self):
        self.assertEqual(told(MIXED, (0, 1), ()), ((), (0, 1)))
        self.assertEqual(told(LEAST, (), ()), ((), ()))

    def test_one_ball(self):
        board = drawn(".a.", feeders=(1,), doors=((7, 0), (8, 0), (99, None)))
        self.assertEqual(told(board, (0,), (0,)), ((7,), (1,)))
        self.assertEqual(told(board, (1,), (0,)), ((99,), (0,)))

    def test_counting(self):
        self.assertEqual(told(COUNTING, (0, 0), (0,) * 9), ((3, 0, 0, 0) * 2 + (3,), (1, 1)))

    def test_names_are_those_of_the_doors(self):
        board = drawn("....", feeders=(0, 1, 2, 3), doors=((9, None), (0, 3), (9, 1), (42, None)))
        self.assertEqual(told(board, (), (3, 2, 1, 0, 0, 3)), ((42, 9, 0, 9, 9, 42), ()))

    def test_none_of_a_ball_that_is_stuck(self):
        board = drawn(".a.", "s..", feeders=(1,), doors=((1, 0), (2, 0), (3, 0)))
        self.assertEqual(told(board, (0,), (0,)), ((None,), (1,)))
        self.assertEqual(told(board, (0,), (0,) * 5), ((None, 3, None, 3, None), (1,)))
        self.assertEqual(told(board, (1,), (0,) * 5), ((3, None, 3, None, 3), (0,)))

    def test_a_ball_stuck_in_the_last_row_is_stuck(self):
        self.assertEqual(told(drawn("..", "s."), (), (0, 0)), ((None, None), ()))

    def test_whatever_doors_call(self):
        for call in (None, 0, 1):
            board = drawn(".a.", "...", feeders=(1, 0), doors=((0, call), (1, call), (2, call)))
            self.assertEqual(told(board, (0,), (0, 0, 1, 0)), ((0, 2, 0, 0), (1,)))

    def test_two_thousand_balls(self):
        self.assertEqual(told(COUNTING, (0, 0), (0,) * 2000), ((3, 0, 0, 0) * 500, (0, 0)))

    def test_two_thousand_balls_on_the_greatest_board(self):
        dice = random.Random(21)
        board = rolled_board(dice, width=40, groups=8, rows=60, feeders=4)
        leans = rolled_leans(dice, board)
        row = tuple(dice.randrange(4) for ball in range(2000))
        self.assertEqual(told(board, leans, row), model_told(board, leans, row))

    def test_rolled_boards(self):
        dice = random.Random(22)
        for again in range(300):
            board = rolled_board(dice)
            leans = rolled_leans(dice, board)
            row = tuple(dice.randrange(len(board[3])) for ball in range(dice.randint(0, 30)))
            answer = told(board, leans, row)
            self.assertEqual(number_kinds(answer), number_kinds(model_told(board, leans, row)))
            self.assertIs(is_leans(board, answer[1]), True)

    def test_a_row_in_two_parts(self):
        dice = random.Random(23)
        for again in range(200):
            board = rolled_board(dice)
            leans = rolled_leans(dice, board)
            row = tuple(dice.randrange(len(board[3])) for ball in range(12))
            part = dice.randint(0, 12)
            names, between = told(board, leans, row[:part])
            more_names, behind = told(board, between, row[part:])
            self.assertEqual(told(board, leans, row), (names + more_names, behind))


class Called(unittest.TestCase):
    def test_most_none(self):
        for stand in (((0, 1), 0), ((0, 1), 1), ((0, 1), None)):
            self.assertEqual(called(MIXED, stand, 0), ((), stand))

    def test_at_most_so_many(self):
        for most in range(10):
            names = ((3, 0, 0, 0) * 3)[:most]
            answer = called(COUNTING, ((0, 0), 0), most)
            self.assertEqual(answer[0], names)
            self.assertEqual(answer[1], (told(COUNTING, (0, 0), (0,) * most)[1], 0))

    def test_as_the_doors_call_them(self):
        board = drawn("....", feeders=(0, 1, 2, 3), doors=((10, 2), (11, None), (12, 3), (13, 1)))
        for most, names, feeder in (
            (0, (), 0), (1, (10,), 2), (2, (10, 12), 3), (3, (10, 12, 13), 1), (4, (10, 12, 13, 11), None),
            (5, (10, 12, 13, 11), None), (2000, (10, 12, 13, 11), None),
        ):
            self.assertEqual(called(board, ((), 0), most), (names, ((), feeder)))

    def test_from_each_feeder(self):
        board = drawn("....", feeders=(0, 1, 2, 3), doors=((10, None), (11, None), (12, None), (13, None)))
        for feeder in range(4):
            self.assertEqual(called(board, ((), feeder), 5), ((10 + feeder,), ((), None)))

    def test_no_ball_from_a_stand_without_a_feeder(self):
        for most in (0, 1, 2000):
            self.assertEqual(called(MIXED, ((1, 0), None), most), ((), ((1, 0), None)))

    def test_behind_a_ball_that_is_stuck(self):
        board = drawn(".a.", "..s", feeders=(1,), doors=((1, 0), (2, 0), (3, 0)))
        self.assertEqual(called(board, ((0,), 0), 1), ((1,), ((1,), 0)))
        for most in (2, 3, 2000):
            self.assertEqual(called(board, ((0,), 0), most), ((1, None), ((0,), None)))

    def test_behind_a_door_that_calls_none(self):
        board = drawn(".a.", feeders=(1,), doors=((1, 0), (2, 0), (3, None)))
        self.assertEqual(called(board, ((0,), 0), 1), ((1,), ((1,), 0)))
        for most in (2, 3, 2000):
            self.assertEqual(called(board, ((0,), 0), most), ((1, 3), ((0,), None)))

    def test_end_with_the_very_last_ball(self):
        board = drawn(".a.", feeders=(1,), doors=((1, 0), (2, 0), (3, None)))
        self.assertEqual(called(board, ((1,), 0), 1), ((3,), ((0,), None)))

    def test_two_thousand_balls(self):
        self.assertEqual(called(COUNTING, ((0, 0), 0), 2000), ((3, 0, 0, 0) * 500, ((0, 0), 0)))

    def test_rolled_boards(self):
        dice = random.Random(24)
        for again in range(300):
            board = rolled_board(dice)
            for feeder in [None] + list(range(len(board[3]))):
                stand = (rolled_leans(dice, board), feeder)
                most = dice.choice((0, 1, 2, 3, 20, 2000)) if again % 10 == 0 else dice.randint(0, 20)
                answer = called(board, stand, most)
                self.assertEqual(number_kinds(answer), number_kinds(model_called(board, stand, most)))
                self.assertIs(is_stand(board, answer[1]), True)

    def test_a_run_in_two_parts(self):
        dice = random.Random(25)
        for again in range(200):
            board = rolled_board(dice)
            stand = (rolled_leans(dice, board), dice.randrange(len(board[3])))
            part = dice.randint(0, 15)
            names, between = called(board, stand, part)
            more_names, behind = called(board, between, 15 - part)
            self.assertEqual(called(board, stand, 15), (names + more_names, behind))

    def test_the_same_as_the_row_that_was_called(self):
        board = with_part(MIXED, 4, ((0, 0), (1, 1), (2, 0), (3, 1), (4, 0)))
        for leans in all_leans(2):
            for feeder in (0, 1):
                names, (behind, last) = called(board, (leans, feeder), 6)
                row = [feeder] + [(0, 1, 0, 1, 0)[name] for name in names if name is not None]
                self.assertEqual(told(board, leans, tuple(row[:len(names)])), (names, behind))


class ToldRefused(unittest.TestCase):
    rests = (((0, 1), (0,)), (None, (0,)), ((0, 1), None), ([0], [0]), ((0, 1), (2,)))

    def test_no_board_comes_first(self):
        for board in no_boards():
            for leans, row in self.rests:
                with self.subTest(board=str(board)[:60]):
                    self.assertIs(refusal(told, board, leans, row), NoBoard)

    def test_fault_comes_then(self):
        for leans, row in self.rests:
            self.assertEqual(refusal(told, FAULTY, leans, row), (Fault,) + FAULTY_AT)

    def test_no_leans_comes_then(self):
        for leans in no_leans() + [()]:
            for row in ((), (0, 1), [0], (2,), None, (0,) * 2001):
                with self.subTest(leans=str(leans)[:60]):
                    self.assertIs(refusal(told, MIXED, leans, row), NoLeans)

    def test_no_row_comes_last(self):
        for row in no_rows(2000):
            with self.subTest(row=str(row)[:60]):
                self.assertIs(refusal(told, MIXED, (0, 1), row), NoRow)

    def test_just_at_the_bounds(self):
        for many, refused in ((0, None), (1999, None), (2000, None), (2001, NoRow), (2002, NoRow)):
            self.assertIs(refusal(told, LEAST, (), (0,) * many), refused)
        for feeders in range(1, 5):
            for feeder in range(-1, 6):
                expected = None if 0 <= feeder < feeders else NoRow
                self.assertIs(refusal(told, plain_board(feeders=feeders), (0, 1), (0, feeder)), expected)


class CalledRefused(unittest.TestCase):
    rests = ((((0, 1), 0), 5), (None, 5), (((0, 1), 0), None), ([(0, 1), 0], -1), (((0, 1), 2), 2001))

    def test_no_board_comes_first(self):
        for board in no_boards():
            for stand, most in self.rests:
                with self.subTest(board=str(board)[:60]):
                    self.assertIs(refusal(called, board, stand, most), NoBoard)

    def test_fault_comes_then(self):
        for stand, most in self.rests:
            self.assertEqual(refusal(called, FAULTY, stand, most), (Fault,) + FAULTY_AT)

    def test_no_stand_comes_then(self):
        for stand in no_stands():
            for most in (0, 5, -1, 2001, None, True):
                with self.subTest(stand=str(stand)[:60]):
                    self.assertIs(refusal(called, MIXED, stand, most), NoStand)

    def test_no_number_comes_last(self):
        for most in no_numbers(0, 2000):
            for stand in (((0, 1), 0), ((0, 1), 1), ((0, 1), None)):
                with self.subTest(most=str(most)[:60]):
                    self.assertIs(refusal(called, MIXED, stand, most), NoNumber)

    def test_just_at_the_bounds(self):
        for most, refused in ((-1, NoNumber), (0, None), (1, None), (1999, None), (2000, None), (2001, NoNumber)):
            self.assertIs(refusal(called, LEAST, ((), 0), most), refused)


class Unchanged(unittest.TestCase):
    def test_what_is_handed_in_stays(self):
        for thing in others() + [[[0, 1], 0], ([0, 1], 0), [0, 1, 0]]:
            before = copy.deepcopy(thing)
            for ask, well in ((told, (0, 1)), (called, ((0, 1), 0))):
                refusal(ask, thing, thing, thing)
                refusal(ask, MIXED, thing, thing)
                refusal(ask, MIXED, well, thing)
            self.assertEqual(thing, before)

    def test_the_same_each_time(self):
        def answers():
            yield told(MIXED, (0, 1), (0, 1, 1, 0))
            yield called(MIXED, ((0, 1), 1), 9)
            yield told(COUNTING, (1, 0), (0,) * 7)
            yield called(COUNTING, ((1, 0), 0), 9)
        first = list(answers())
        for again in range(3):
            self.assertEqual(list(answers()), first)


if __name__ == "__main__":
    unittest.main()
