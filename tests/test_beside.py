"""beside [38], and what it refuses [4], [8]."""

import copy
import random
import unittest

from ballrockers.beside import beside
from ballrockers.boards import all_leans, look_at_board
from ballrockers.errors import Fault, NoBoard, TooGreat
from ballrockers.runs import called, told
from ballrockers.ways import way
from samples import (
    FAULTY, FAULTY_AT, LEAST, MIXED, drawn, no_boards, number_kinds, others, plain_board, refusal, rolled_board,
    rolled_leans, with_part, with_place,
)


def rolled_two(dice):
    """Two boards by dice that may stand side by side."""
    feeders = dice.randint(1, 3)
    one = rolled_board(dice, feeders=feeders)
    return one, rolled_board(dice, feeders=dice.randint(1, 4 - feeders))


class Beside(unittest.TestCase):
    def test_written_out(self):
        one = drawn(".a.", ".B.", feeders=(1, 0), doors=((1, 0), (2, 1), (3, None)))
        other = drawn(".A..", ">x<.", "..cs", feeders=(1, 3), doors=((4, 0), (5, 1), (6, None), (7, 0)))
        joined = (
            7,
            5,
            (
                (".", (0, 0), ".", ".", (2, 1), ".", "."),
                (".", (1, 1), ".", ">", "x", "<", "."),
                (".", ".", ".", ".", ".", (4, 0), "s"),
            ),
            (1, 0, 4, 6),
            ((1, 0), (2, 1), (3, None), (4, 2), (5, 3), (6, None), (7, 2)),
        )
        self.assertEqual(number_kinds(beside(one, other)), number_kinds(joined))

    def test_the_other_way_round(self):
        one = drawn(".A..", ">x<.", "..cs", feeders=(1, 3), doors=((4, 0), (5, 1), (6, None), (7, 0)))
        other = drawn(".a.", ".B.", feeders=(1, 0), doors=((1, 0), (2, 1), (3, None)))
        joined = (
            7,
            5,
            (
                (".", (0, 1), ".", ".", ".", (3, 0), "."),
                (">", "x", "<", ".", ".", (4, 1), "."),
                (".", ".", (2, 0), "s", ".", ".", "."),
            ),
            (1, 3, 5, 4),
            ((4, 0), (5, 1), (6, None), (7, 0), (1, 2), (2, 3), (3, None)),
        )
        self.assertEqual(number_kinds(beside(one, other)), number_kinds(joined))

    def test_least_boards(self):
        self.assertEqual(beside(LEAST, LEAST), (2, 0, (), (0, 1), ((0, 0), (0, 1))))

    def test_no_rows(self):
        rowless = plain_board(width=2, groups=1, rows=0, feeders=1)
        joined = beside(rowless, MIXED)
        self.assertEqual(joined[:2], (7, 3))
        self.assertEqual([places[:2] for places in joined[2]], [(".", ".")] * 4)
        joined = beside(MIXED, rowless)
        self.assertEqual(joined[2], tuple(places + (".", ".") for places in MIXED[2]))

    def test_fewer_rows_at_either_side(self):
        for rows in range(4):
            for other in range(4):
                one = drawn(*["><"] * rows, width=2)
                two = drawn(*["s"] * other)
                joined = beside(one, two)
                for row in range(max(rows, other)):
                    left = (">", "<") if row < rows else (".", ".")
                    self.assertEqual(joined[2][row], left + (("s",) if row < other else (".",)))
                self.assertEqual(len(joined[2]), max(rows, other))

    def test_groups_that_no_rocker_has(self):
        joined = beside(drawn("...", groups=3), drawn(".a.", groups=4))
        self.assertEqual(joined[1], 7)
        self.assertEqual(joined[2], ((".",) * 4 + ((3, 0), "."),))

    def test_no_groups(self):
        self.assertEqual(beside(drawn(">x<"), drawn(".s."))[:3], (6, 0, ((">", "x", "<", ".", "s", "."),)))

    def test_calls(self):
        for feeders in range(1, 4):
            one = drawn("..", feeders=(0, 1, 0)[:feeders], doors=((8, feeders - 1), (9, None)))
            others_feeders = 4 - feeders
            doors = tuple((10 + call, call) for call in range(others_feeders)) + ((20, None),)
            other = drawn("." * len(doors), feeders=(0,) * others_feeders, doors=doors)
            moved = tuple((10 + call, call + feeders) for call in range(others_feeders)) + ((20, None),)
            self.assertEqual(beside(one, other)[4], ((8, feeders - 1), (9, None)) + moved)

    def test_feeders_columns(self):
        joined = beside(drawn("...", feeders=(2, 0)), drawn("..", feeders=(1, 0)))
        self.assertEqual(joined[3], (2, 0, 4, 3))

    def test_it_is_a_board(self):
        dice = random.Random(41)
        for again in range(300):
            self.assertIsNone(look_at_board(beside(*rolled_two(dice))))


class Balls(unittest.TestCase):
    def test_ways(self):
        dice = random.Random(42)
        for again in range(200):
            one, other = rolled_two(dice)
            joined = beside(one, other)
            deep = len(joined[2]) + 1
            leans, other_leans = rolled_leans(dice, one), rolled_leans(dice, other)
            for feeder in range(len(one[3])):
                columns, turned, behind = way(one, leans, feeder)
                if len(columns) == len(one[2]) + 1:
                    columns += columns[-1:] * (deep - len(columns))
                self.assertEqual(way(joined, leans + other_leans, feeder), (columns, turned, behind + other_leans))
            for feeder in range(len(other[3])):
                columns, turned, behind = way(other, other_leans, feeder)
                if len(columns) == len(other[2]) + 1:
                    columns += columns[-1:] * (deep - len(columns))
                expected = (
                    tuple(column + one[0] for column in columns),
                    tuple(group + one[1] for group in turned),
                    leans + behind,
                )
                self.assertEqual(way(joined, leans + other_leans, feeder + len(one[3])), expected)

    def test_told(self):
        dice = random.Random(43)
        for again in range(150):
            one, other = rolled_two(dice)
            joined = beside(one, other)
            first = len(one[3])
            leans, other_leans = rolled_leans(dice, one), rolled_leans(dice, other)
            row = tuple(dice.randrange(len(joined[3])) for ball in range(20))
            names, behind = told(one, leans, tuple(feeder for feeder in row if feeder < first))
            other_row = tuple(feeder - first for feeder in row if feeder >= first)
            other_names, other_behind = told(other, other_leans, other_row)
            joined_names, joined_behind = told(joined, leans + other_leans, row)
            self.assertEqual(joined_behind, behind + other_behind)
            parted = tuple(zip(row, joined_names))
            self.assertEqual(tuple(name for feeder, name in parted if feeder < first), names)
            self.assertEqual(tuple(name for feeder, name in parted if feeder >= first), other_names)

    def test_called(self):
        dice = random.Random(44)
        for again in range(150):
            one, other = rolled_two(dice)
            joined = beside(one, other)
            leans, other_leans = rolled_leans(dice, one), rolled_leans(dice, other)
            names, (behind, feeder) = called(one, (leans, 0), 25)
            self.assertEqual(called(joined, (leans + other_leans, 0), 25), (names, (behind + other_leans, feeder)))
            names, (behind, feeder) = called(other, (other_leans, 0), 25)
            feeder = None if feeder is None else feeder + len(one[3])
            answer = called(joined, (leans + other_leans, len(one[3])), 25)
            self.assertEqual(answer, (names, (leans + behind, feeder)))

    def test_counts_apart(self):
        joined = beside(drawn(".a.", feeders=(1,)), drawn(".A.", feeders=(1,)))
        self.assertEqual(told(joined, (0, 0), (0, 1, 1, 0, 0, 1)), ((0, 2, 0, 2, 0, 2), (1, 1)))


class TooGreatOnes(unittest.TestCase):
    def test_columns_at_the_bound(self):
        for width in (1, 2, 19, 20, 21, 38, 39, 40):
            for other in (1, 2, 19, 20, 21, 38, 39, 40):
                answer = refusal(beside, plain_board(width, 1, 1, 1), plain_board(other, 1, 1, 1))
                self.assertIs(answer, None if width + other <= 40 else TooGreat)

    def test_groups_at_the_bound(self):
        for groups in range(9):
            for other in range(9):
                answer = refusal(beside, plain_board(3, groups, 1, 1), plain_board(3, other, 1, 1))
                self.assertIs(answer, None if groups + other <= 8 else TooGreat)

    def test_feeders_at_the_bound(self):
        for feeders in range(1, 5):
            for other in range(1, 5):
                answer = refusal(beside, plain_board(3, 1, 1, feeders), plain_board(3, 1, 1, other))
                self.assertIs(answer, None if feeders + other <= 4 else TooGreat)

    def test_rows_are_never_too_many(self):
        for rows, other in ((60, 60), (60, 0), (0, 60), (59, 60)):
            self.assertIsNone(refusal(beside, plain_board(3, 1, rows), plain_board(3, 1, other)))

    def test_greatest_board(self):
        dice = random.Random(45)
        one = rolled_board(dice, width=20, groups=4, rows=60, feeders=2)
        joined = beside(one, rolled_board(dice, width=20, groups=4, rows=59, feeders=2))
        self.assertIsNone(look_at_board(joined))
        self.assertEqual((joined[0], joined[1], len(joined[2]), len(joined[3])), (40, 8, 60, 4))


class Refused(unittest.TestCase):
    rest = (MIXED, FAULTY, None, LEAST, plain_board(40, 8, 60, 4))

    def test_no_board_of_the_one_comes_first(self):
        for board in no_boards():
            for other in self.rest:
                with self.subTest(board=str(board)[:60]):
                    self.assertIs(refusal(beside, board, other), NoBoard)

    def test_fault_of_the_one_comes_then(self):
        for other in no_boards() + [MIXED, LEAST, plain_board(40, 8, 60, 4), with_place(MIXED, 0, 0, "<")]:
            self.assertEqual(refusal(beside, FAULTY, other), (Fault,) + FAULTY_AT)

    def test_no_board_of_the_other_comes_then(self):
        for board in no_boards():
            for one in (MIXED, LEAST, plain_board(40, 8, 60, 4)):
                with self.subTest(board=str(board)[:60]):
                    self.assertIs(refusal(beside, one, board), NoBoard)

    def test_fault_of_the_other_comes_then(self):
        for one in (MIXED, LEAST, plain_board(40, 8, 60, 4), plain_board(1, 8, 60, 4)):
            self.assertEqual(refusal(beside, one, FAULTY), (Fault,) + FAULTY_AT)

    def test_a_fault_that_would_be_none_side_by_side(self):
        # In the middle of the joined board these pieces might stand; on their own board they mustn't.
        for piece in ("<", "x", (0, 0)):
            self.assertEqual(refusal(beside, MIXED, with_place(MIXED, 2, 0, piece)), (Fault, 2, 0))
        for piece in (">", "x", (0, 0)):
            self.assertEqual(refusal(beside, with_place(MIXED, 2, 4, piece), MIXED), (Fault, 2, 4))

    def test_a_group_or_a_call_that_the_other_alone_has(self):
        self.assertEqual(refusal(beside, drawn(".b.", groups=1), drawn("...", groups=4)), (Fault, 0, 1))
        self.assertIs(refusal(beside, with_part(LEAST, 4, ((0, 1),)), LEAST), NoBoard)


class Unchanged(unittest.TestCase):
    def test_what_is_handed_in_stays(self):
        for thing in others() + [list(MIXED), [list(part) for part in MIXED[2:]]]:
            before = copy.deepcopy(thing)
            for one, other in ((thing, thing), (MIXED, thing), (thing, MIXED)):
                refusal(beside, one, other)
            self.assertEqual(thing, before)

    def test_the_same_each_time(self):
        first = beside(MIXED, MIXED)
        between = beside(LEAST, MIXED)
        for again in range(3):
            self.assertEqual(beside(MIXED, MIXED), first)
            self.assertEqual(beside(LEAST, MIXED), between)
        for leans in all_leans(2):
            self.assertEqual(way(first, leans + leans, 0)[2][2:], leans)


if __name__ == "__main__":
    unittest.main()
