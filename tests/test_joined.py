"""below [26], and what it refuses [4], [8]."""

import copy
import random
import unittest

from ballrockers.boards import all_leans, look_at_board
from ballrockers.errors import Fault, NoBoard, NoFit, TooGreat
from ballrockers.joined import below
from ballrockers.runs import called, told
from ballrockers.ways import way
from samples import (
    FAULTY, FAULTY_AT, LEAST, MIXED, drawn, no_boards, number_kinds, others, plain_board, refusal, rolled_board,
    rolled_leans, with_part, with_place,
)


class Below(unittest.TestCase):
    def test_written_out(self):
        one = drawn(".a.", ".B.", feeders=(1, 0), doors=((1, 0), (2, 1), (3, None)))
        other = drawn(".A.", ">x<", ".c.", feeders=(1,), doors=((4, 0), (5, None), (6, 0)))
        joined = (
            3,
            5,
            (
                (".", (0, 0), "."),
                (".", (1, 1), "."),
                (".", ".", "."),
                (".", (2, 1), "."),
                (">", "x", "<"),
                (".", (4, 0), "."),
            ),
            (1, 0),
            ((4, 0), (5, None), (6, 0)),
        )
        self.assertEqual(number_kinds(below(one, other)), number_kinds(joined))

    def test_boards_of_no_rows(self):
        self.assertEqual(below(LEAST, LEAST), (1, 0, ((".",),), (0,), ((0, 0),)))
        rowless = plain_board(width=5, groups=1, rows=0, feeders=1)
        self.assertEqual(below(rowless, MIXED)[2][0], (".",) * 5)
        self.assertEqual(below(MIXED, rowless)[2], MIXED[2] + ((".",) * 5,))

    def test_groups_that_no_rocker_has(self):
        joined = below(drawn("...", groups=3), drawn(".a.", groups=4))
        self.assertEqual(joined[1], 7)
        self.assertEqual(joined[2], ((".",) * 3, (".",) * 3, (".", (3, 0), ".")))

    def test_other_feeders_are_gone(self):
        joined = below(drawn("...", feeders=(2,)), drawn("...", feeders=(0, 1, 0)))
        self.assertEqual(joined[3], (2,))

    def test_calls_of_a_feeder_that_the_one_has_not(self):
        doors = ((10, 0), (11, 1), (12, 2), (13, 3), (14, None))
        other = drawn(".....", feeders=(0, 1, 2, 3), doors=doors)
        for feeders in range(1, 5):
            one = drawn(".....", feeders=(0, 1, 2, 3)[:feeders])
            kept = tuple((name, call if call is not None and call < feeders else None) for name, call in doors)
            self.assertEqual(below(one, other)[4], kept)

    def test_more_feeders_than_the_other_has(self):
        joined = below(drawn("..", feeders=(0, 1, 0, 1)), drawn("..", feeders=(0,), doors=((7, 0), (8, None))))
        self.assertEqual(joined[3:], ((0, 1, 0, 1), ((7, 0), (8, None))))

    def test_it_is_a_board(self):
        dice = random.Random(31)
        for again in range(200):
            width = dice.randint(1, 9)
            joined = below(rolled_board(dice, width=width), rolled_board(dice, width=width))
            self.assertIsNone(look_at_board(joined))

    def test_a_crossing_below_is_come_to_straight_down(self):
        joined = below(drawn(">...", ".<..", "..<."), drawn(".x..", "...."))
        self.assertEqual(way(with_part(joined, 3, (2,)), (), 0)[0], (2, 2, 2, 1, 1, 1, 1))


class Balls(unittest.TestCase):
    def joined_way(self, one, other, leans, other_leans, feeder):
        """The way of a ball on both boards, as [26] tells it."""
        columns, turned, behind = way(one, leans, feeder)
        if len(columns) == len(one[2]) + 1:
            # Just a feeder above that column, to ask for the ball that comes straight down in it.
            fed = (other[0], other[1], other[2], (columns[-1],), ((0, None),) * other[0])
            other_columns, other_turned, other_leans = way(fed, other_leans, 0)
            columns += other_columns
            turned += tuple(group + one[1] for group in other_turned)
        return columns, turned, behind + other_leans

    def test_ways(self):
        dice = random.Random(32)
        ends = set()
        for again in range(200):
            width = dice.randint(1, 9)
            one = rolled_board(dice, width=width, rows=dice.randint(0, 4))
            other = rolled_board(dice, width=width)
            joined = below(one, other)
            for leans in all_leans(one[1]):
                other_leans = rolled_leans(dice, other)
                for feeder in range(len(one[3])):
                    expected = self.joined_way(one, other, leans, other_leans, feeder)
                    self.assertEqual(way(joined, leans + other_leans, feeder), expected)
                    ends.add(min(len(expected[0]) - len(one[2]), 2))
        # Some are stuck on the one, some come to the other one.
        self.assertEqual({end > 0 for end in ends if end != 1}, {True, False})

    def test_stuck_on_the_one(self):
        one = drawn(".a.", "s..", feeders=(1,))
        other = drawn(".b.", "...", feeders=(1,))
        joined = below(one, other)
        self.assertEqual(way(joined, (0, 0, 0), 0), ((1, 0), (0,), (1, 0, 0)))
        self.assertEqual(told(joined, (0, 0, 0), (0, 0)), ((None, 2), (0, 0, 0)))

    def test_stuck_on_the_other(self):
        joined = below(drawn(".a.", feeders=(1,)), drawn("s..", feeders=(0,), doors=((1, 0), (2, 0), (3, 0))))
        self.assertEqual(way(joined, (0,), 0), ((1, 0, 0), (0,), (1,)))
        self.assertEqual(called(joined, ((1,), 0), 9), ((3, None), ((1,), None)))

    def test_counts_by_both(self):
        counting = drawn("..a..", feeders=(2,))
        carried = drawn(".a...", feeders=(1,), doors=((1, 0), (0, 0), (0, 0), (0, 0), (0, 0)))
        joined = below(counting, carried)
        self.assertEqual(told(joined, (0, 0), (0,) * 8)[0], (1, 0, 0, 0) * 2)


class Refused(unittest.TestCase):
    def test_no_board_of_the_one_comes_first(self):
        for board in no_boards():
            for other in (MIXED, FAULTY, None, LEAST, plain_board(5, 8, 60)):
                with self.subTest(board=str(board)[:60]):
                    self.assertIs(refusal(below, board, other), NoBoard)

    def test_fault_of_the_one_comes_then(self):
        for other in no_boards() + [MIXED, LEAST, plain_board(5, 8, 60), with_place(MIXED, 0, 0, "<")]:
            self.assertEqual(refusal(below, FAULTY, other), (Fault,) + FAULTY_AT)

    def test_no_board_of_the_other_comes_then(self):
        for board in no_boards():
            for one in (MIXED, LEAST, plain_board(5, 8, 60)):
                with self.subTest(board=str(board)[:60]):
                    self.assertIs(refusal(below, one, board), NoBoard)

    def test_fault_of_the_other_comes_then(self):
        for one in (MIXED, LEAST, plain_board(5, 8, 60), plain_board(4, 8, 60)):
            self.assertEqual(refusal(below, one, FAULTY), (Fault,) + FAULTY_AT)

    def test_no_fit(self):
        for width in range(1, 41):
            for other in (1, width - 1, width, width + 1, 40):
                if 1 <= other <= 40:
                    answer = refusal(below, plain_board(width, 1), plain_board(other, 1))
                    self.assertIs(answer, None if width == other else NoFit)

    def test_no_fit_comes_ahead_of_too_great(self):
        self.assertIs(refusal(below, plain_board(3, 8, 60), plain_board(4, 8, 60)), NoFit)
        self.assertIs(refusal(below, plain_board(3, 8, 0), plain_board(4, 1, 0)), NoFit)
        self.assertIs(refusal(below, plain_board(3, 0, 60), plain_board(2, 0, 0)), NoFit)

    def test_groups_at_the_bound(self):
        for groups in range(9):
            for other in range(9):
                answer = refusal(below, plain_board(3, groups), plain_board(3, other))
                self.assertIs(answer, None if groups + other <= 8 else TooGreat)

    def test_rows_at_the_bound(self):
        # The row between counts, too.
        for rows in (0, 1, 29, 30, 58, 59, 60):
            for other in (0, 1, 2, 28, 29, 30, 31, 58, 59, 60):
                answer = refusal(below, plain_board(3, 1, rows), plain_board(3, 1, other))
                self.assertIs(answer, None if rows + 1 + other <= 60 else TooGreat)

    def test_greatest_board(self):
        dice = random.Random(33)
        one = rolled_board(dice, width=40, groups=4, rows=30, feeders=4)
        joined = below(one, rolled_board(dice, width=40, groups=4, rows=29, feeders=4))
        self.assertIsNone(look_at_board(joined))
        self.assertEqual((joined[1], len(joined[2])), (8, 60))


class Unchanged(unittest.TestCase):
    def test_what_is_handed_in_stays(self):
        for thing in others() + [list(MIXED), [list(part) for part in MIXED[2:]]]:
            before = copy.deepcopy(thing)
            for one, other in ((thing, thing), (MIXED, thing), (thing, MIXED)):
                refusal(below, one, other)
            self.assertEqual(thing, before)

    def test_the_same_each_time(self):
        first = below(MIXED, MIXED)
        between = below(LEAST, LEAST)
        for again in range(3):
            self.assertEqual(below(MIXED, MIXED), first)
            self.assertEqual(below(LEAST, LEAST), between)


if __name__ == "__main__":
    unittest.main()
