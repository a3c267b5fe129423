"""rounds and counted [39], and what they refuse [4], [8]."""

import copy
import random
import unittest

from ballrockers.adders import adder
from ballrockers.boards import all_leans
from ballrockers.counters import counter
from ballrockers.errors import Fault, NoBoard, TooGreat
from ballrockers.ever import for_ever
from ballrockers.rounds import counted, rounds
from samples import (
    FAULTY, FAULTY_AT, LEAST, MIXED, chain, digits_of, drawn, model_ball, no_boards, number_kinds, others, plain_board,
    refusal, rolled_board, rolled_turning_board, with_part, with_place,
)


def by_for_ever(board):
    """What rounds and counted tell, by for_ever from each stand on."""
    found, ends = {}, 0
    for leans in all_leans(board[1]):
        for feeder in range(len(board[3])):
            stands, back = for_ever(board, (leans, feeder))
            if back is None:
                ends += 1
                continue
            turn = stands[back:]
            at = turn.index(min(turn))
            turn = turn[at:] + turn[:at]
            found[turn] = found.get(turn, 0) + 1
    order = sorted(found)
    return tuple(order), (tuple(found[turn] for turn in order), ends)


def each_board():
    dice = random.Random(111)
    yield LEAST
    yield MIXED
    yield plain_board()
    for size in (1, 2, 3):
        yield adder(size)
    for number in (1, 2, 3, 20, 64):
        yield counter(number)[0]
    for again in range(120):
        if again % 2:
            yield rolled_board(dice)
        else:
            board = rolled_turning_board(dice, dice.randint(0, 5), dice.randint(1, 4), again % 3)
            if again % 4:
                board = with_part(board, 4, tuple((name, dice.randrange(len(board[3]))) for name, call in board[4]))
            yield board


class Rounds(unittest.TestCase):
    def test_one_stand(self):
        self.assertEqual(rounds(LEAST), (((((), 0)),),))
        self.assertEqual(counted(LEAST), ((1,), 0))

    def test_no_round(self):
        board = with_part(LEAST, 4, ((0, None),))
        self.assertEqual((rounds(board), counted(board)), ((), ((), 1)))
        self.assertEqual((rounds(drawn("s", feeders=(0, 0))), counted(drawn("s", feeders=(0, 0)))), ((), ((), 2)))
        for size in (1, 2, 3):
            self.assertEqual((rounds(adder(size)), counted(adder(size))), ((), ((), 4 ** size)))

    def test_rounds_by_feeders(self):
        board = drawn("....", feeders=(0, 1, 2, 3), doors=((0, 2), (0, 3), (0, 0), (0, 3)))
        self.assertEqual(rounds(board), ((((), 0), ((), 2)), (((), 3),)))
        self.assertEqual(counted(board), ((2, 2), 0))
        board = drawn("....", feeders=(0, 1, 2, 3), doors=((0, 1), (0, None), (0, 3), (0, 2)))
        self.assertEqual(rounds(board), ((((), 2), ((), 3)),))
        self.assertEqual(counted(board), ((2,), 2))

    def test_from_the_least_stand_on(self):
        # 3 leads to 2, 2 to 1, 1 to 3.
        board = drawn("....", feeders=(0, 1, 2, 3), doors=((0, 3), (0, 3), (0, 1), (0, 2)))
        self.assertEqual(rounds(board), ((((), 1), ((), 3), ((), 2)),))
        self.assertEqual(counted(board), ((4,), 0))

    def test_a_round_for_each_leans(self):
        board = plain_board(groups=3, feeders=1)
        self.assertEqual(rounds(board), tuple(((leans, 0),) for leans in all_leans(3)))
        self.assertEqual(counted(board), ((1,) * 8, 0))

    def test_a_round_of_all_stands(self):
        for groups in range(7):
            board = chain(groups)
            expected = tuple((digits_of(number, groups), 0) for number in range(2 ** groups))
            self.assertEqual(rounds(board), (expected,))
            self.assertEqual(counted(board), ((2 ** groups,), 0))

    def test_counters(self):
        for number in range(1, 65):
            board, leans = counter(number)
            found = rounds(board)
            self.assertEqual([len(turn) for turn in found], [number])
            self.assertIn((leans, 0), found[0])
            self.assertEqual(counted(board), ((2 ** board[1],), 0))

    def test_rounds_beside_ends(self):
        # Feeder 0's balls turn the rocker; from (0,) on the door calls feeder 1, which calls none.
        board = drawn(".a..", feeders=(1, 3), doors=((0, 1), (0, 0), (0, 0), (0, None)))
        self.assertEqual(rounds(board), ())
        self.assertEqual(counted(board), ((), 4))
        board = drawn(".a..", feeders=(1, 3), doors=((0, 0), (0, 0), (0, 0), (0, None)))
        self.assertEqual(rounds(board), ((((0,), 0), ((1,), 0)),))
        self.assertEqual(counted(board), ((2,), 2))

    def test_by_for_ever(self):
        many, lead, end = set(), 0, 0
        for board in each_board():
            expected, count = by_for_ever(board)
            self.assertEqual(number_kinds(rounds(board)), number_kinds(expected))
            self.assertEqual(number_kinds(counted(board)), number_kinds(count))
            many.add(len(expected))
            lead += any(number > len(turn) for number, turn in zip(count[0], expected))
            end += count[1] > 0
        self.assertGreater(len(many), 5)
        self.assertGreater(min(lead, end), 10)

    def test_one_ball_of_each_leads_to_the_next(self):
        for board in each_board():
            for turn in rounds(board):
                self.assertEqual(min(turn), turn[0])
                self.assertEqual(len(set(turn)), len(turn))
                for (leans, feeder), following in zip(turn, turn[1:] + turn[:1]):
                    name, call, behind = model_ball(board, leans, feeder)
                    self.assertEqual((behind, call), following)

    def test_as_many_as_there_are_stands(self):
        for board in each_board():
            numbers, ends = counted(board)
            self.assertEqual(sum(numbers) + ends, 2 ** board[1] * len(board[3]))
            self.assertEqual(len(numbers), len(rounds(board)))

    def test_where_each_is_led_to_by_one(self):
        for board in each_board():
            led_to = {}
            for leans in all_leans(board[1]):
                for feeder in range(len(board[3])):
                    name, call, behind = model_ball(board, leans, feeder)
                    led_to[behind, call] = led_to.get((behind, call), 0) + 1
            stands = [(leans, feeder) for leans in all_leans(board[1]) for feeder in range(len(board[3]))]
            if all(led_to.get(stand) == 1 for stand in stands):
                self.assertEqual(sorted(stand for turn in rounds(board) for stand in turn), stands)

    def test_six_groups_and_four_feeders(self):
        dice = random.Random(112)
        for again in range(3):
            board = rolled_board(dice, width=40, groups=6, rows=60, feeders=4)
            self.assertEqual((rounds(board), counted(board)), by_for_ever(board))


class Refused(unittest.TestCase):
    def test_no_board(self):
        for ask in (rounds, counted):
            for board in no_boards():
                with self.subTest(board=str(board)[:60]):
                    self.assertIs(refusal(ask, board), NoBoard)

    def test_fault_comes_then(self):
        for ask in (rounds, counted):
            self.assertEqual(refusal(ask, FAULTY), (Fault,) + FAULTY_AT)
            self.assertEqual(refusal(ask, with_place(plain_board(3, 8), 1, 2, "x")), (Fault, 1, 2))
            self.assertIs(refusal(ask, with_part(with_place(plain_board(3, 8), 1, 2, "x"), 1, 9)), NoBoard)

    def test_too_great(self):
        for ask in (rounds, counted):
            for groups in range(9):
                self.assertIs(refusal(ask, plain_board(groups=groups)), TooGreat if groups > 6 else None)

    def test_what_is_handed_in_stays(self):
        for thing in others() + [list(MIXED)]:
            before = copy.deepcopy(thing)
            refusal(rounds, thing)
            refusal(counted, thing)
            self.assertEqual(thing, before)

    def test_the_same_each_time(self):
        boards = list(each_board())
        first = [(rounds(board), counted(board)) for board in boards]
        self.assertEqual([(rounds(board), counted(board)) for board in boards[::-1]][::-1], first)


if __name__ == "__main__":
    unittest.main()
