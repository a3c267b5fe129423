"""counter [22], and what it refuses [4]."""

import copy
import unittest

from ballrockers.boards import is_leans, look_at_board
from ballrockers.counters import counter
from ballrockers.counts import after
from ballrockers.errors import NoNumber
from ballrockers.ever import for_ever
from ballrockers.groups import least_groups
from ballrockers.runs import called
from samples import model_ball, no_numbers, number_kinds, others, refusal


class Counter(unittest.TestCase):
    def test_it_is_a_board(self):
        for number in range(1, 257):
            answer = counter(number)
            self.assertIs(type(answer), tuple)
            board, leans = answer
            self.assertIsNone(look_at_board(board))
            self.assertIs(is_leans(board, leans), True)

    def test_groups_feeder_and_calls(self):
        for number in range(1, 257):
            board, leans = counter(number)
            self.assertEqual(board[1], least_groups(number, 1))
            self.assertEqual(len(board[3]), 1)
            self.assertEqual({call for name, call in board[4]}, {0})
            self.assertTrue({name for name, call in board[4]} <= {0, 1})

    def test_ball_by_ball(self):
        for number in range(1, 257):
            board, leans = counter(number)
            # Twice round, by the model.
            for again in range(2):
                at, came, names = leans, [], []
                for ball in range(number):
                    came.append(at)
                    name, call, at = model_ball(board, at, 0)
                    names.append(name)
                    self.assertEqual(call, 0)
                self.assertEqual(at, leans)
                self.assertEqual(len(set(came)), number)
                self.assertEqual(names, [0] * (number - 1) + [1])

    def test_for_ever(self):
        for number in range(1, 257):
            board, leans = counter(number)
            stands, back = for_ever(board, (leans, 0))
            self.assertEqual((len(stands), back), (number, 0))
            behind, pairs, balls = after(board, (leans, 0), 10 ** 50 // number * number)
            self.assertEqual(behind, (leans, 0))
            expected = ((0, 10 ** 50 // number * (number - 1)), (1, 10 ** 50 // number))
            self.assertEqual(pairs, expected if number > 1 else expected[1:])

    def test_one(self):
        board, leans = counter(1)
        self.assertEqual((board[1], leans), (0, ()))
        self.assertEqual(called(board, (leans, 0), 9), ((1,) * 9, ((), 0)))

    def test_a_few(self):
        for number in (2, 3, 5, 6, 7, 255, 256):
            board, leans = counter(number)
            names = called(board, (leans, 0), 2000)[0]
            self.assertEqual(names, tuple(int((ball + 1) % number == 0) for ball in range(2000)))

    def test_the_same_each_time(self):
        first = [counter(number) for number in range(1, 257)]
        for again in range(2):
            self.assertEqual([counter(number) for number in range(256, 0, -1)][::-1], first)
        self.assertEqual(number_kinds(counter(7)), number_kinds(first[6]))


class Refused(unittest.TestCase):
    def test_no_number(self):
        for number in no_numbers(1, 256):
            with self.subTest(number=str(number)[:60]):
                self.assertIs(refusal(counter, number), NoNumber)

    def test_just_at_the_bounds(self):
        for number, refused in ((-1, NoNumber), (0, NoNumber), (1, None), (2, None), (255, None), (256, None),
                                (257, NoNumber), (258, NoNumber), (True, NoNumber), (False, NoNumber)):
            self.assertIs(refusal(counter, number), refused)

    def test_what_is_handed_in_stays(self):
        for thing in others():
            before = copy.deepcopy(thing)
            refusal(counter, thing)
            self.assertEqual(thing, before)


if __name__ == "__main__":
    unittest.main()
