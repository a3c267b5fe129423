"""at_once and is_quick [32], and what they refuse [4], [8]."""

import copy
import random
import unittest

from ballrockers.beats import at_once, is_quick
from ballrockers.boards import all_leans
from ballrockers.errors import Fault, NoBoard, NoLeans, NoNumber, NoRow
from ballrockers.runs import told
from samples import (
    FAULTY, FAULTY_AT, LEAST, MIXED, drawn, model_at_once, no_boards, no_leans, no_numbers, no_rows, number_kinds,
    others, plain_board, refusal, rolled_board, rolled_leans,
)

# A ball meets the group in row 0, and again in row 2.
SLOW = drawn("..a..", ".>.<.", "..a..", feeders=(2,))
# A ball meets the group in row after row.
STEPS = drawn("..a..", ".a.a.", "..a..", feeders=(2,))


class AtOnce(unittest.TestCase):
    def test_no_balls(self):
        for beat in (1, 2, 100):
            self.assertEqual(at_once(MIXED, (0, 1), (), beat), ((), (0, 1)))
            self.assertEqual(at_once(LEAST, (), (), beat), ((), ()))

    def test_one_ball(self):
        for leans in all_leans(2):
            for feeder in (0, 1):
                for beat in (1, 100):
                    self.assertEqual(at_once(MIXED, leans, (feeder,), beat), told(MIXED, leans, (feeder,)))

    def test_no_rows(self):
        board = drawn(width=3, feeders=(2, 0))
        for beat in (1, 7):
            self.assertEqual(at_once(board, (), (0, 1, 1, 0), beat), ((2, 0, 0, 2), ()))

    def test_a_ball_turns_what_one_ahead_comes_to_later(self):
        # Beat 0: ball 0 turns the group to 1 and goes left. Beat 1: first ball 0, by 1, turns it to 0 and goes right,
        # then ball 1, by 0, turns it to 1 and goes left. Beat 2: ball 0, by 1, to 0, right; ball 1, by 0, to 1, left.
        # Beat 3: ball 1 is in column 0, where there's nothing; then all are out.
        self.assertEqual(told(STEPS, (0,), (0, 0)), ((1, 3), (0,)))
        self.assertEqual(at_once(STEPS, (0,), (0, 0), 1), ((3, 0), (1,)))

    def test_in_one_beat_the_ball_let_in_first_goes_first(self):
        # In beat 1 ball 0 comes to the group in row 1, and ball 1 in row 0. Were ball 1 ahead it would go right, and
        # ball 0 left, by the doors 3 and 0.
        board = drawn("..a..", ".a...", feeders=(2,))
        self.assertEqual(at_once(board, (0,), (0, 0), 1), ((2, 2), (0,)))

    def test_written_out_by_beats(self):
        # By told each ball meets the group twice; by beat 1 ball 1 meets it between them, in beat 1.
        self.assertEqual(told(SLOW, (0,), (0, 0)), ((3, 3), (0,)))
        self.assertEqual(at_once(SLOW, (0,), (0, 0), 3), ((3, 3), (0,)))
        # Beat 0: ball 0 left, 1. Beat 1: ball 1 right, 0. Beat 2: ball 0 left, 1. Beat 3: ball 1 right, 0.
        self.assertEqual(at_once(SLOW, (0,), (0, 0), 1), ((1, 3), (0,)))
        # Beat 0: ball 0 left, 1. Beat 2: ball 0 ahead, right, 0; ball 1 left, 1. Beat 4: ball 1 right, 0.
        self.assertEqual(at_once(SLOW, (0,), (0, 0), 2), ((3, 3), (0,)))

    def test_a_ball_that_is_stuck(self):
        board = drawn(".a.", "s..", "...", feeders=(1,), doors=((1, 0), (2, 0), (3, 0)))
        for beat in (1, 2, 3, 50):
            self.assertEqual(at_once(board, (0,), (0,) * 5, beat), ((None, 3, None, 3, None), (1,)))

    def test_a_ball_that_is_stuck_turns_nothing_more(self):
        board = drawn("s.", "..", feeders=(0, 1))
        self.assertEqual(at_once(board, (), (0, 1, 0), 1), ((None, 1, None), ()))
        board = drawn(".s.", ".a.", ".a.", feeders=(1,))
        self.assertEqual(at_once(board, (0,), (0, 0), 1), ((None, None), (0,)))

    def test_a_ball_stuck_in_the_last_row(self):
        self.assertEqual(at_once(drawn("..", "s."), (), (0, 0), 1), ((None, None), ()))

    def test_a_crossing_is_come_to_by_each_ball_its_own_way(self):
        board = drawn(">.<", ".x.", feeders=(0, 1, 2))
        for beat in (1, 2, 3):
            self.assertEqual(at_once(board, (), (0, 1, 2, 0), beat), ((2, 1, 0, 2), ()))

    def test_each_beat_on_rolled_boards(self):
        dice = random.Random(41)
        unlike = 0
        for again in range(300):
            board = rolled_board(dice, width=dice.randint(3, 9), rows=dice.randint(0, 12))
            leans = rolled_leans(dice, board)
            row = tuple(dice.randrange(len(board[3])) for ball in range(dice.randint(0, 12)))
            for beat in (1, 2, 3, dice.randint(4, 12), dice.randint(13, 100)):
                answer = at_once(board, leans, row, beat)
                self.assertEqual(number_kinds(answer), number_kinds(model_at_once(board, leans, row, beat)))
                unlike += answer != told(board, leans, row)
        self.assertGreater(unlike, 50)

    def test_two_hundred_balls_on_the_greatest_board(self):
        dice = random.Random(42)
        board = rolled_board(dice, width=40, groups=8, rows=60, feeders=4)
        leans = rolled_leans(dice, board)
        row = tuple(dice.randrange(4) for ball in range(200))
        for beat in (1, 7, 59, 60, 100):
            self.assertEqual(at_once(board, leans, row, beat), model_at_once(board, leans, row, beat))

    def test_not_less_than_rows(self):
        dice = random.Random(43)
        for again in range(200):
            board = rolled_board(dice, width=dice.randint(3, 9), rows=dice.randint(1, 12))
            leans = rolled_leans(dice, board)
            row = tuple(dice.randrange(len(board[3])) for ball in range(12))
            for beat in (len(board[2]), len(board[2]) + 1, 100):
                self.assertEqual(at_once(board, leans, row, beat), told(board, leans, row))

    def test_each_beat_from_1_to_100(self):
        board = rolled_board(random.Random(44), width=9, groups=3, rows=60, feeders=2)
        row = (0, 1, 1, 0, 0, 0, 1)
        for beat in range(1, 101):
            self.assertEqual(at_once(board, (0, 1, 0), row, beat), model_at_once(board, (0, 1, 0), row, beat))


class Quick(unittest.TestCase):
    def test_each_group_in_one_row(self):
        for board in (
            LEAST, plain_board(), plain_board(groups=0), drawn(".a.", feeders=(1,)), drawn(".aaAa."),
            drawn(".ab.", ".cd."), drawn(".b.", "...", ".a."), drawn("...", ".x.", ".a."),
            drawn(".abA.", "..c..", "..dd."),
        ):
            self.assertIs(is_quick(board), True)

    def test_a_group_in_two_rows(self):
        for board in (
            MIXED, SLOW, STEPS, drawn(".a.", ".a."), drawn(".a.", ".A."), drawn(".a...", ".....", "...a."),
            drawn(".ab.", ".bc."), drawn(".abcd.", "......", ".efg..", "......", "....d."),
            drawn(".b.", ".b.", groups=8),
        ):
            self.assertIs(is_quick(board), False)

    def test_in_the_first_and_the_last_row(self):
        rows = ["." * 40] * 58
        self.assertIs(is_quick(drawn("." * 38 + "h.", *rows, "." * 38 + "H.")), False)
        self.assertIs(is_quick(drawn("." * 38 + "h.", *rows, "." * 38 + "G.")), True)

    def test_rolled_boards(self):
        dice = random.Random(45)
        found = []
        for again in range(400):
            board = rolled_board(dice, width=dice.randint(1, 5), rows=dice.randint(0, 4), groups=dice.randint(0, 8))
            rows_of = {}
            for at, places in enumerate(board[2]):
                for piece in places:
                    if isinstance(piece, tuple):
                        rows_of.setdefault(piece[0], set()).add(at)
            expected = all(len(rows) == 1 for rows in rows_of.values())
            self.assertIs(is_quick(board), expected)
            found.append(expected)
        self.assertIn(True, found)
        self.assertIn(False, found)

    def test_quick_boards_tell_what_told_tells(self):
        dice = random.Random(46)
        many = 0
        for again in range(1500):
            board = rolled_board(dice, width=dice.randint(3, 6), rows=dice.randint(1, 6), groups=dice.randint(1, 8))
            if is_quick(board):
                leans = rolled_leans(dice, board)
                row = tuple(dice.randrange(len(board[3])) for ball in range(10))
                for beat in (1, 2, 3, 4, 5, 6, 100):
                    self.assertEqual(at_once(board, leans, row, beat), told(board, leans, row))
                many += 1
        self.assertGreater(many, 100)


class Refused(unittest.TestCase):
    rests = (((0, 1), (0,), 1), (None, (0,), 1), ((0, 1), None, 1), ((0, 1), (0,), 0), ([0], [0], True))

    def test_no_board_comes_first(self):
        for board in no_boards():
            with self.subTest(board=str(board)[:60]):
                self.assertIs(refusal(is_quick, board), NoBoard)
                for leans, row, beat in self.rests:
                    self.assertIs(refusal(at_once, board, leans, row, beat), NoBoard)

    def test_fault_comes_then(self):
        self.assertEqual(refusal(is_quick, FAULTY), (Fault,) + FAULTY_AT)
        for leans, row, beat in self.rests:
            self.assertEqual(refusal(at_once, FAULTY, leans, row, beat), (Fault,) + FAULTY_AT)

    def test_no_leans_comes_then(self):
        for leans in no_leans() + [()]:
            for row, beat in (((0, 1), 1), ((), 1), ([0], 1), ((2,), 1), ((0,), 0), (None, None), ((0,) * 201, 101)):
                with self.subTest(leans=str(leans)[:60]):
                    self.assertIs(refusal(at_once, MIXED, leans, row, beat), NoLeans)

    def test_no_row_comes_then(self):
        for row in no_rows(200):
            for beat in (1, 100, 0, 101, None, True):
                with self.subTest(row=str(row)[:60]):
                    self.assertIs(refusal(at_once, MIXED, (0, 1), row, beat), NoRow)

    def test_no_number_comes_last(self):
        for beat in no_numbers(1, 100):
            for row in ((), (0, 1)):
                with self.subTest(beat=str(beat)[:60]):
                    self.assertIs(refusal(at_once, MIXED, (0, 1), row, beat), NoNumber)

    def test_just_at_the_bounds(self):
        for many, refused in ((0, None), (199, None), (200, None), (201, NoRow), (2000, NoRow)):
            self.assertIs(refusal(at_once, LEAST, (), (0,) * many, 1), refused)
        for beat, refused in ((0, NoNumber), (1, None), (99, None), (100, None), (101, NoNumber)):
            self.assertIs(refusal(at_once, MIXED, (0, 1), (0, 1, 0), beat), refused)
        for feeders in range(1, 5):
            for feeder in range(-1, 6):
                expected = None if 0 <= feeder < feeders else NoRow
                self.assertIs(refusal(at_once, plain_board(feeders=feeders), (0, 1), (0, feeder), 1), expected)


class Unchanged(unittest.TestCase):
    def test_what_is_handed_in_stays(self):
        for thing in others() + [[0, 1, 0], ([0, 1], 0)]:
            before = copy.deepcopy(thing)
            refusal(is_quick, thing)
            refusal(at_once, thing, thing, thing, thing)
            refusal(at_once, MIXED, thing, thing, thing)
            refusal(at_once, MIXED, (0, 1), thing, thing)
            refusal(at_once, MIXED, (0, 1), (0, 1), thing)
            self.assertEqual(thing, before)

    def test_the_same_each_time(self):
        def answers():
            yield at_once(MIXED, (0, 1), (0, 1, 1, 0), 1)
            yield is_quick(MIXED)
            yield at_once(SLOW, (1,), (0,) * 5, 2)
            yield is_quick(drawn(".ab."))
        first = list(answers())
        for again in range(3):
            self.assertEqual(list(answers()), first)


if __name__ == "__main__":
    unittest.main()
