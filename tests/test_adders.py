"""adder [23], and what it refuses [4]."""

import copy
import unittest

from ballrockers.adders import adder
from ballrockers.boards import all_leans, look_at_board
from ballrockers.errors import NoNumber
from ballrockers.runs import called
from samples import digits_of, model_called, no_numbers, number_kinds, number_of, others, refusal


class Adders(unittest.TestCase):
    def test_is_a_board(self):
        for size in (1, 2, 3):
            board = adder(size)
            self.assertIsNone(look_at_board(board))
            self.assertEqual(board[1], 2 * size)
            self.assertEqual(len(board[3]), 1)

    def test_adds_from_all_leans(self):
        for size in (1, 2, 3):
            board = adder(size)
            for leans in all_leans(2 * size):
                one, other = number_of(leans[:size]), number_of(leans[size:])
                names, (behind, feeder) = called(board, (leans, 0), 2000)
                self.assertEqual(len(names), one + 1)
                self.assertEqual(behind, digits_of(0, size) + digits_of((one + other) % 2 ** size, size))
                self.assertIsNone(feeder)

    def test_names_from_all_leans(self):
        for size in (1, 2, 3):
            board = adder(size)
            for leans in all_leans(2 * size):
                one, other = number_of(leans[:size]), number_of(leans[size:])
                names = [int((other + ball + 1) % 2 ** size == 0) for ball in range(one)] + [2]
                self.assertEqual(called(board, (leans, 0), 2000)[0], tuple(names))

    def test_ball_after_ball(self):
        for size in (1, 2, 3):
            board = adder(size)
            for leans in all_leans(2 * size):
                one, other = number_of(leans[:size]), number_of(leans[size:])
                for balls in range(one + 1):
                    names, (behind, feeder) = called(board, (leans, 0), balls)
                    self.assertEqual(len(names), balls)
                    self.assertEqual(number_of(behind[:size]), one - balls)
                    self.assertEqual(number_of(behind[size:]), (other + balls) % 2 ** size)
                    self.assertEqual(feeder, 0)

    def test_by_the_model_too(self):
        for size in (1, 2, 3):
            board = adder(size)
            for leans in all_leans(2 * size):
                self.assertEqual(called(board, (leans, 0), 9), model_called(board, (leans, 0), 9))

    def test_written_out(self):
        self.assertEqual(called(adder(1), ((0, 0), 0), 9), ((2,), ((0, 0), None)))
        self.assertEqual(called(adder(1), ((1, 1), 0), 9), ((1, 2), ((0, 0), None)))
        # 3 and 2 are 5, less 4 is 1.
        self.assertEqual(called(adder(2), ((1, 1, 0, 1), 0), 9), ((0, 1, 0, 2), ((0, 0, 1, 0), None)))
        # 4 and 3 are 7.
        self.assertEqual(called(adder(3), ((0, 0, 1, 1, 1, 0), 0), 9), ((0,) * 4 + (2,), ((0, 0, 0, 1, 1, 1), None)))
        # 7 and 7 are 14, less 8 is 6.
        self.assertEqual(called(adder(3), ((1,) * 6, 0), 9), ((1,) + (0,) * 6 + (2,), ((0, 0, 0, 0, 1, 1), None)))

    def test_the_same_each_time(self):
        first = [adder(size) for size in (1, 2, 3)]
        for again in range(3):
            self.assertEqual([adder(size) for size in (3, 2, 1)][::-1], first)
            self.assertEqual(number_kinds(adder(2)), number_kinds(first[1]))


class Refused(unittest.TestCase):
    def test_no_number(self):
        for size in no_numbers(1, 3):
            with self.subTest(size=str(size)[:60]):
                self.assertIs(refusal(adder, size), NoNumber)

    def test_just_at_the_bounds(self):
        for size, refused in ((0, NoNumber), (1, None), (2, None), (3, None), (4, NoNumber), (True, NoNumber)):
            self.assertIs(refusal(adder, size), refused)

    def test_what_is_handed_in_stays(self):
        for thing in others():
            before = copy.deepcopy(thing)
            refusal(adder, thing)
            self.assertEqual(thing, before)


if __name__ == "__main__":
    unittest.main()
