"""way and way_holds [1], [9], [10], [11], and what they refuse [2], [4], [8]."""

import copy
import random
import unittest

from ballrockers.boards import all_leans
from ballrockers.errors import Fault, NoBoard, NoFeeder, NoLeans
from ballrockers.ways import way, way_holds
from samples import (
    FAULTY, FAULTY_AT, LEAST, MIXED, changed_papers, drawn, model_way, no_boards, no_feeders, no_leans, number_kinds,
    others, plain_board, refusal, rolled_board, rolled_leans, with_part,
)


class Pieces(unittest.TestCase):
    """Each piece by itself, in each way of coming to it."""

    def goes(self, board, leans, columns, turned=(), behind=None):
        """A ball of feeder 0 goes by these columns."""
        told = (columns, turned, leans if behind is None else behind)
        self.assertEqual(way(board, leans, 0), told)
        self.assertIs(way_holds(board, leans, 0, told), True)

    def test_nothing(self):
        self.goes(drawn("...", feeders=(1,)), (), (1, 1))
        self.goes(drawn(">..", "...", feeders=(0,)), (), (0, 1, 1))
        self.goes(drawn("..<", "...", feeders=(2,)), (), (2, 1, 1))

    def test_nothing_at_the_sides(self):
        for column in (0, 2):
            self.goes(drawn("...", "...", feeders=(column,)), (), (column,) * 3)

    def test_ramp_to_the_left(self):
        self.goes(drawn(".<.", feeders=(1,)), (), (1, 0))
        self.goes(drawn("..<", feeders=(2,)), (), (2, 1))
        self.goes(drawn("..<.", ".<..", feeders=(2,)), (), (2, 1, 0))
        self.goes(drawn(">...", ".<..", feeders=(0,)), (), (0, 1, 0))

    def test_ramp_to_the_right(self):
        self.goes(drawn(".>.", feeders=(1,)), (), (1, 2))
        self.goes(drawn(">..", feeders=(0,)), (), (0, 1))
        self.goes(drawn(".>..", "..>.", feeders=(1,)), (), (1, 2, 3))
        self.goes(drawn("...<", "..>.", feeders=(3,)), (), (3, 2, 3))

    def test_rocker_of_each_side_and_lean(self):
        for sign, lean, columns in (("a", 0, (1, 0)), ("a", 1, (1, 2)), ("A", 0, (1, 2)), ("A", 1, (1, 0))):
            with self.subTest(sign=sign, lean=lean):
                self.goes(drawn(f".{sign}.", feeders=(1,)), (lean,), columns, (0,), (1 - lean,))

    def test_rocker_come_to_from_each_side(self):
        for sign, lean, step in (("a", 0, -1), ("a", 1, 1), ("A", 0, 1), ("A", 1, -1)):
            with self.subTest(sign=sign, lean=lean):
                row = f"..{sign}.."
                self.goes(drawn(".>...", row, feeders=(1,)), (lean,), (1, 2, 2 + step), (0,), (1 - lean,))
                self.goes(drawn("...<.", row, feeders=(3,)), (lean,), (3, 2, 2 + step), (0,), (1 - lean,))
                self.goes(drawn(".....", row, feeders=(2,)), (lean,), (2, 2, 2 + step), (0,), (1 - lean,))

    def test_rocker_of_each_group(self):
        for group in range(8):
            board = drawn(f".{'abcdefgh'[group]}.", groups=8, feeders=(1,))
            leans = tuple(int(other in (1, 4, 7)) for other in range(8))
            behind = leans[:group] + (1 - leans[group],) + leans[group + 1:]
            self.goes(board, leans, (1, 2 if leans[group] else 0), (group,), behind)

    def test_crossing_come_to_from_the_left(self):
        self.goes(drawn(">..", ".x.", feeders=(0,)), (), (0, 1, 2))
        self.goes(drawn(">...", ".x..", "..x.", feeders=(0,)), (), (0, 1, 2, 3))

    def test_crossing_come_to_from_the_right(self):
        self.goes(drawn("..<", ".x.", feeders=(2,)), (), (2, 1, 0))
        self.goes(drawn("...<", "..x.", ".x..", feeders=(3,)), (), (3, 2, 1, 0))

    def test_crossing_come_to_straight_down(self):
        self.goes(drawn(".x.", feeders=(1,)), (), (1, 1))
        self.goes(drawn(".x.", ".x.", ".x.", feeders=(1,)), (), (1, 1, 1, 1))
        self.goes(drawn("...", ".x.", feeders=(1,)), (), (1, 1, 1))

    def test_crossing_forgets_what_was_further_up(self):
        self.goes(drawn(">..", "...", ".x.", feeders=(0,)), (), (0, 1, 1, 1))
        self.goes(drawn("..<", "...", ".x.", feeders=(2,)), (), (2, 1, 1, 1))
        self.goes(drawn("..>..", "...<.", "..x..", feeders=(2,)), (), (2, 3, 2, 1))
        self.goes(drawn("..<..", ".>...", "..x..", feeders=(2,)), (), (2, 1, 2, 3))

    def test_crossing_behind_a_rocker(self):
        board = drawn("..a..", ".x.x.", feeders=(2,))
        self.goes(board, (0,), (2, 1, 0), (0,), (1,))
        self.goes(board, (1,), (2, 3, 4), (0,), (0,))

    def test_crossing_behind_a_rocker_and_another_crossing(self):
        board = drawn("...a...", "..x.x..", ".x...x.", feeders=(3,))
        self.goes(board, (0,), (3, 2, 1, 0), (0,), (1,))
        self.goes(board, (1,), (3, 4, 5, 6), (0,), (0,))

    def test_two_balls_cross(self):
        board = drawn(">.<", ".x.", feeders=(0, 2))
        self.assertEqual(way(board, (), 0), ((0, 1, 2), (), ()))
        self.assertEqual(way(board, (), 1), ((2, 1, 0), (), ()))

    def test_blind_place(self):
        self.goes(drawn(".s.", feeders=(1,)), (), (1,))
        self.goes(drawn("...", ".s.", "...", feeders=(1,)), (), (1, 1))
        self.goes(drawn(">..", ".s.", feeders=(0,)), (), (0, 1))
        self.goes(drawn("..<", ".s.", feeders=(2,)), (), (2, 1))
        self.goes(drawn(".s.", ".s.", ".s.", feeders=(1,)), (), (1,))

    def test_blind_place_at_the_sides(self):
        for column in (0, 2):
            self.goes(drawn("...", "s.s", "...", feeders=(column,)), (), (column, column))

    def test_blind_place_in_the_last_row(self):
        self.goes(drawn(".a.", "s..", feeders=(1,)), (0,), (1, 0), (0,), (1,))
        self.goes(drawn(".a.", "s..", feeders=(1,)), (1,), (1, 2, 2), (0,), (0,))

    def test_what_was_turned_ahead_of_a_blind_place_stays_so(self):
        self.goes(drawn("..a..", ".b...", "s.s..", feeders=(2,)), (0, 1), (2, 1, 2), (0, 1), (1, 0))


class Turned(unittest.TestCase):
    def test_group_met_several_times(self):
        board = drawn("..a..", ".a.a.", "..a..", feeders=(2,))
        self.assertEqual(way(board, (0,), 0), ((2, 1, 2, 1), (0, 0, 0), (1,)))
        self.assertEqual(way(board, (1,), 0), ((2, 3, 2, 3), (0, 0, 0), (0,)))

    def test_group_met_by_both_sides(self):
        board = drawn("....a....", "...A.A...", "..a.a.a..", ".A.A.A.A.", feeders=(4,))
        self.assertEqual(way(board, (0,), 0), ((4, 3, 2, 1, 0), (0, 0, 0, 0), (0,)))
        self.assertEqual(way(board, (1,), 0), ((4, 5, 6, 7, 8), (0, 0, 0, 0), (1,)))

    def test_all_rockers_of_a_group_turn_at_once(self):
        board = drawn(".a...a.", feeders=(1, 5))
        self.assertEqual(way(board, (0,), 0), ((1, 0), (0,), (1,)))
        self.assertEqual(way(board, (1,), 1), ((5, 6), (0,), (0,)))

    def test_groups_in_the_order_of_meeting(self):
        board = drawn("..b..", ".a.c.", "..b..", feeders=(2,))
        self.assertEqual(way(board, (1, 0, 0), 0), ((2, 1, 2, 3), (1, 0, 1), (0, 0, 0)))
        self.assertEqual(way(board, (1, 1, 0), 0), ((2, 3, 2, 1), (1, 2, 1), (1, 1, 1)))

    def test_only_groups_that_were_met_lean_otherwise(self):
        dice = random.Random(10)
        for again in range(400):
            board = rolled_board(dice, groups=dice.randint(1, 8), width=dice.randint(3, 9))
            leans = rolled_leans(dice, board)
            columns, turned, behind = way(board, leans, 0)
            for group in range(board[1]):
                self.assertEqual(behind[group], (leans[group] + turned.count(group)) % 2)


class Greatest(unittest.TestCase):
    def test_no_rows(self):
        for column in range(4):
            board = with_part(plain_board(width=4, groups=2, rows=0), 3, (column,))
            self.assertEqual(way(board, (1, 0), 0), ((column,), (), (1, 0)))

    def test_least_board(self):
        self.assertEqual(way(LEAST, (), 0), ((0,), (), ()))

    def test_one_column(self):
        self.assertEqual(way(drawn(".", ".", "."), (), 0), ((0, 0, 0, 0), (), ()))
        self.assertEqual(way(drawn(".", "s", "."), (), 0), ((0, 0), (), ()))

    def test_two_columns(self):
        self.assertEqual(way(drawn("><", ".<", ">."), (), 0), ((0, 1, 0, 1), (), ()))

    def test_each_feeder(self):
        board = drawn(".>..", feeders=(3, 1, 0, 1))
        for feeder, columns in enumerate(((3, 3), (1, 2), (0, 0), (1, 2))):
            self.assertEqual(way(board, (), feeder), (columns, (), ()))

    def test_from_side_to_side(self):
        rows = ["." * at + ">" + "." * (39 - at) for at in range(39)] + ["." * 40] * 21
        self.assertEqual(way(drawn(*rows), (), 0), (tuple(range(40)) + (39,) * 21, (), ()))

    def test_greatest_board(self):
        dice = random.Random(11)
        for again in range(20):
            board = rolled_board(dice, width=40, groups=8, rows=60, feeders=4)
            # Without blind places a ball comes down all sixty rows.
            rows = tuple(tuple("." if piece == "s" else piece for piece in places) for places in board[2])
            board = with_part(board, 2, rows)
            leans = rolled_leans(dice, board)
            for feeder in range(4):
                told = way(board, leans, feeder)
                self.assertEqual(told, model_way(board, leans, feeder))
                self.assertEqual(len(told[0]), 61)
                self.assertIs(way_holds(board, leans, feeder, told), True)

    def test_rolled_boards(self):
        dice = random.Random(12)
        for again in range(600):
            board = rolled_board(dice)
            for leans in all_leans(board[1]):
                for feeder in range(len(board[3])):
                    told = way(board, leans, feeder)
                    self.assertEqual(number_kinds(told), number_kinds(model_way(board, leans, feeder)))

    def test_rolled_boards_have_all_ends(self):
        dice = random.Random(12)
        ends = set()
        for again in range(600):
            board = rolled_board(dice)
            ends.add(len(way(board, rolled_leans(dice, board), 0)[0]) == len(board[2]) + 1)
        self.assertEqual(ends, {True, False})


class Holds(unittest.TestCase):
    def each_ball(self):
        dice = random.Random(13)
        boards = [MIXED, LEAST, drawn(".a.", feeders=(1,)), drawn(".s.", feeders=(1,))]
        for board in boards + [rolled_board(dice) for again in range(12)]:
            for leans in all_leans(board[1])[:4]:
                for feeder in range(len(board[3])):
                    yield board, leans, feeder

    def test_what_way_tells(self):
        for board, leans, feeder in self.each_ball():
            self.assertIs(way_holds(board, leans, feeder, way(board, leans, feeder)), True)
            self.assertIs(way_holds(board, leans, feeder, model_way(board, leans, feeder)), True)

    def test_with_a_part_changed(self):
        for board, leans, feeder in self.each_ball():
            for paper in changed_papers(way(board, leans, feeder)):
                self.assertIs(way_holds(board, leans, feeder, paper), False, paper)

    def test_written_out(self):
        board = drawn(".a.b.", "..x..", "s.a..", feeders=(1, 3))
        leans = (1, 0)
        self.assertEqual(way(board, leans, 0), ((1, 2, 3, 3), (0,), (0, 0)))
        for paper in (
            ((1, 2, 3), (0,), (0, 0)), ((1, 2, 3, 4), (0,), (0, 0)), ((1, 2, 3, 3, 3), (0,), (0, 0)),
            ((True, 2, 3, 3), (0,), (0, 0)), ((1, 2, 3, 3), (False,), (0, 0)), ((1, 2, 3, 3), (0,), (0, False)),
            ((1, 2, 3, 3), (0,), (False, 0)), ([1, 2, 3, 3], (0,), (0, 0)), ((1, 2, 3, 3), [0], (0, 0)),
            ((1, 2, 3, 3), (0,), [0, 0]), [(1, 2, 3, 3), (0,), (0, 0)], ((1, 2, 3, 3), (), (0, 0)),
            ((1, 2, 3, 3), (0, 0), (0, 0)), ((1, 2, 3, 3), (1,), (0, 0)), ((1, 2, 3, 3), (0,), (1, 0)),
            ((1, 2, 3, 3), (0,)), ((1, 2, 3, 3), (0,), (0, 0), ()), ((0,), (1, 2, 3, 3), (0, 0)),
            ((2, 1, 3, 3), (0,), (0, 0)), {0: (1, 2, 3, 3), 1: (0,), 2: (0, 0)}, "((1, 2, 3, 3), (0,), (0, 0))",
        ):
            with self.subTest(paper=paper):
                self.assertIs(way_holds(board, leans, 0, paper), False)

    def test_of_another_ball(self):
        for board, leans, feeder in self.each_ball():
            own = way(board, leans, feeder)
            for other_leans in all_leans(board[1]):
                for other in range(len(board[3])):
                    paper = way(board, other_leans, other)
                    self.assertIs(way_holds(board, leans, feeder, paper), paper == own)

    def test_things_of_any_other_kind(self):
        for board, leans, feeder in ((MIXED, (0, 1), 1), (LEAST, (), 0), (drawn(".s.", feeders=(1,)), (), 0)):
            columns, turned, behind = way(board, leans, feeder)
            for thing in others() + [0, (), ((), (), ())]:
                with self.subTest(thing=str(thing)[:60]):
                    self.assertIs(way_holds(board, leans, feeder, thing), False)
                    self.assertIs(way_holds(board, leans, feeder, (thing, turned, behind)), False)
                    self.assertIs(way_holds(board, leans, feeder, (columns, turned, (thing,) + behind)), False)
                    self.assertIs(way_holds(board, leans, feeder, (columns, turned + (thing,), behind)), False)

    def test_great_papers(self):
        board = rolled_board(random.Random(14), width=40, groups=8, rows=60, feeders=4)
        columns, turned, behind = way(board, (0,) * 8, 0)
        great = ((columns * 300, turned, behind), (columns, (0,) * 19000, behind), (columns, turned, behind * 2000))
        for paper in great:
            self.assertIs(way_holds(board, (0,) * 8, 0, paper), False)


class Refused(unittest.TestCase):
    def asks(self):
        yield way
        for paper in (None, way(MIXED, (0, 1), 0), [], ((), (), ())):
            yield lambda board, leans, feeder, paper=paper: way_holds(board, leans, feeder, paper)

    def test_no_board_comes_first(self):
        for ask in self.asks():
            for board in no_boards():
                for leans, feeder in (((0, 1), 0), (None, 0), ((0, 1), None), ([0], True)):
                    with self.subTest(board=str(board)[:60]):
                        self.assertIs(refusal(ask, board, leans, feeder), NoBoard)

    def test_fault_comes_then(self):
        for ask in self.asks():
            for leans, feeder in (((0, 1), 0), (None, 0), ((0, 1), None), ([0], True)):
                self.assertEqual(refusal(ask, FAULTY, leans, feeder), (Fault,) + FAULTY_AT)

    def test_no_leans_comes_then(self):
        for ask in self.asks():
            for leans in no_leans() + [()]:
                for feeder in (0, 2, None, True):
                    with self.subTest(leans=str(leans)[:60]):
                        self.assertIs(refusal(ask, MIXED, leans, feeder), NoLeans)

    def test_no_feeder_comes_last(self):
        for ask in self.asks():
            for feeder in no_feeders():
                with self.subTest(feeder=str(feeder)[:60]):
                    self.assertIs(refusal(ask, MIXED, (0, 1), feeder), NoFeeder)

    def test_as_many_feeders_as_there_are(self):
        for ask in self.asks():
            for feeders in range(1, 5):
                for feeder in range(-1, 6):
                    expected = None if 0 <= feeder < feeders else NoFeeder
                    self.assertIs(refusal(ask, plain_board(feeders=feeders), (0, 1), feeder), expected)


class Unchanged(unittest.TestCase):
    def test_what_is_handed_in_stays(self):
        for thing in others() + [[[1, 2], [0], [0, 0]]]:
            before = copy.deepcopy(thing)
            way_holds(MIXED, (0, 1), 0, thing)
            refusal(way, thing, thing, thing)
            refusal(way, MIXED, thing, thing)
            refusal(way, MIXED, (0, 1), thing)
            self.assertEqual(thing, before)

    def test_the_same_each_time(self):
        other = drawn("..a..", ".x.x.", "s...s", feeders=(2, 1))
        first = [way(MIXED, leans, feeder) for leans in all_leans(2) for feeder in (0, 1)]
        second = [way(other, leans, 0) for leans in all_leans(1)]
        for again in range(3):
            self.assertEqual([way(MIXED, leans, feeder) for leans in all_leans(2) for feeder in (0, 1)], first)
            self.assertEqual([way(other, leans, 0) for leans in all_leans(1)], second)


if __name__ == "__main__":
    unittest.main()
