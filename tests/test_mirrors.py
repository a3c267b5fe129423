"""mirrored, and what it refuses [3], [4], [8]."""

import copy
import random
import unittest

from ballrockers.adders import adder
from ballrockers.boards import all_leans, look_at_board
from ballrockers.counters import counter
from ballrockers.errors import Fault, NoBoard
from ballrockers.mirrors import mirrored
from ballrockers.runs import called, told
from ballrockers.ways import way
from samples import (
    FAULTY, FAULTY_AT, LEAST, MIXED, drawn, no_boards, number_kinds, others, plain_board, refusal, rolled_board,
    rolled_leans, with_place,
)

MIRRORED_PIECES = {".": ".", "x": "x", "s": "s", "<": ">", ">": "<"}


def model_mirrored(board):
    """[8] word by word."""
    width, groups, rows, feeders, doors = board

    def piece(row, column):
        found = rows[row][width - 1 - column]
        return (found[0], {0: 1, 1: 0}[found[1]]) if isinstance(found, tuple) else MIRRORED_PIECES[found]

    return (
        width,
        groups,
        tuple(tuple(piece(row, column) for column in range(width)) for row in range(len(rows))),
        tuple(width - 1 - column for column in feeders),
        tuple(doors[width - 1 - column] for column in range(width)),
    )


def each_board():
    dice = random.Random(31)
    yield LEAST
    yield MIXED
    for size in (1, 2, 3):
        yield adder(size)
    for number in (1, 2, 7, 100, 256):
        yield counter(number)[0]
    for width in (1, 2, 3, 39, 40):
        for rows in (0, 1, 60):
            for groups in (0, 1, 8):
                yield rolled_board(dice, width=width, rows=rows, groups=groups)
    for again in range(150):
        yield rolled_board(dice)


class Mirrored(unittest.TestCase):
    def test_each_part(self):
        board = drawn(".abx<", "s>.B.", groups=3, feeders=(0, 3, 3), doors=((1, 0), (2, None), (3, 2), (4, 1), (5, 0)))
        self.assertEqual(mirrored(board), (
            5,
            3,
            ((">", "x", (1, 1), (0, 1), "."), (".", (1, 0), ".", "<", "s")),
            (4, 1, 1),
            ((5, 0), (4, 1), (3, 2), (2, None), (1, 0)),
        ))

    def test_each_piece(self):
        for sign, expected in ((".", "."), ("x", "x"), ("s", "s"), ("<", ">"), (">", "<")):
            self.assertEqual(mirrored(drawn("." + sign + ".."))[2], ((".", ".", expected, "."),))
        for group in range(8):
            for side in (0, 1):
                board = with_place(plain_board(4, 8, 1), 0, 1, (group, side))
                self.assertEqual(mirrored(board)[2], ((".", ".", (group, 1 - side), "."),))

    def test_a_ramp_at_each_side(self):
        self.assertEqual(mirrored(drawn(">.<"))[2], ((">", ".", "<"),))
        self.assertEqual(mirrored(drawn(">.."))[2], ((".", ".", "<"),))

    def test_one_column(self):
        self.assertEqual(mirrored(LEAST), LEAST)
        board = drawn(".", "s", feeders=(0, 0), doors=((9, None),))
        self.assertEqual(mirrored(board), board)

    def test_word_by_word(self):
        for board in each_board():
            answer = mirrored(board)
            self.assertEqual(number_kinds(answer), number_kinds(model_mirrored(board)))
            self.assertIsNone(look_at_board(answer))

    def test_twice_is_itself(self):
        for board in each_board():
            self.assertEqual(number_kinds(mirrored(mirrored(board))), number_kinds(board))

    def test_a_balls_columns(self):
        dice = random.Random(32)
        for board in each_board():
            other = mirrored(board)
            for leans in all_leans(board[1]) if board[1] < 3 else [rolled_leans(dice, board)]:
                for feeder in range(len(board[3])):
                    columns, turned, behind = way(board, leans, feeder)
                    expected = (tuple(board[0] - 1 - column for column in columns), turned, behind)
                    self.assertEqual(way(other, leans, feeder), expected)

    def test_runs_are_the_same(self):
        dice = random.Random(33)
        for board in each_board():
            leans = rolled_leans(dice, board)
            row = tuple(dice.randrange(len(board[3])) for ball in range(15))
            self.assertEqual(told(mirrored(board), leans, row), told(board, leans, row))
            for feeder in [None] + list(range(len(board[3]))):
                self.assertEqual(called(mirrored(board), (leans, feeder), 15), called(board, (leans, feeder), 15))


class Refused(unittest.TestCase):
    def test_no_board(self):
        for board in no_boards():
            with self.subTest(board=str(board)[:60]):
                self.assertIs(refusal(mirrored, board), NoBoard)

    def test_fault_with_the_first_wrong_place(self):
        self.assertEqual(refusal(mirrored, FAULTY), (Fault,) + FAULTY_AT)
        self.assertEqual(refusal(mirrored, with_place(FAULTY, 3, 0, "<")), (Fault,) + FAULTY_AT)
        self.assertEqual(refusal(mirrored, with_place(FAULTY, 1, 0, "<")), (Fault, 1, 0))
        self.assertEqual(refusal(mirrored, with_place(FAULTY, 0, 4, ">")), (Fault, 0, 4))

    def test_what_is_handed_in_stays(self):
        for thing in others() + [list(MIXED), [list(part) if isinstance(part, tuple) else part for part in MIXED]]:
            before = copy.deepcopy(thing)
            refusal(mirrored, thing)
            self.assertEqual(thing, before)

    def test_the_same_each_time(self):
        boards = list(each_board())
        first = [mirrored(board) for board in boards]
        self.assertEqual([mirrored(board) for board in boards[::-1]][::-1], first)


if __name__ == "__main__":
    unittest.main()
