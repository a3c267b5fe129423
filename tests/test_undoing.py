"""undone [27], undo_clash and clash_holds [28], and what they refuse [2], [3], [4], [8]."""

import copy
import itertools
import random
import unittest

from ballrockers.adders import adder
from ballrockers.boards import all_leans
from ballrockers.counters import counter
from ballrockers.errors import Fault, NoBoard, NoLeans, NoNumber
from ballrockers.undoing import clash_holds, undo_clash, undone
from ballrockers.ways import way
from samples import (
    FAULTY, FAULTY_AT, LEAST, MIXED, chain, drawn, kinds_changed, model_is_leans, model_way, no_boards, no_feeders,
    no_leans, no_numbers, number_kinds, others, plain_board, refusal, rolled_board, rolled_turning_board, with_part,
    with_place, without_blind_places,
)


def comings(board):
    """A list of (leans, feeder, column of the door or None, leans behind) of all balls, by the model, rising."""
    found = []
    for leans in all_leans(board[1]):
        for feeder in range(len(board[3])):
            columns, turned, behind = model_way(board, leans, feeder)
            out = columns[-1] if len(columns) == len(board[2]) + 1 else None
            found.append((leans, feeder, out, behind))
    return found


def model_undone(board, leans, column):
    """What undone tells."""
    return tuple((ahead, feeder) for ahead, feeder, out, behind in comings(board) if (out, behind) == (column, leans))


def model_clash(board):
    """What undo_clash tells, by all two pairs."""
    balls = comings(board)
    for at, (leans, feeder, out, behind) in enumerate(balls):
        for other_leans, other_feeder, other_out, other_behind in balls[at + 1:]:
            if out is not None and (out, behind) == (other_out, other_behind):
                return ((leans, feeder), (other_leans, other_feeder))
    return None


def each_board(seed, many=120):
    dice = random.Random(seed)
    yield LEAST
    yield MIXED
    yield plain_board()
    for again in range(many):
        if again % 2:
            yield rolled_board(dice)
        else:
            yield rolled_turning_board(dice, dice.randint(0, 4), dice.randint(1, 4), again % 3)


class Undone(unittest.TestCase):
    def test_one_rocker(self):
        board = drawn(".a.", feeders=(1,))
        self.assertEqual(undone(board, (1,), 0), (((0,), 0),))
        self.assertEqual(undone(board, (0,), 2), (((1,), 0),))
        for leans, column in (((0,), 0), ((1,), 2), ((0,), 1), ((1,), 1)):
            self.assertEqual(undone(board, leans, column), ())

    def test_several(self):
        board = drawn("...", feeders=(1, 0, 1, 1))
        self.assertEqual(undone(board, (), 1), (((), 0), ((), 2), ((), 3)))
        self.assertEqual(undone(board, (), 0), (((), 1),))
        self.assertEqual(undone(board, (), 2), ())
        # A ramp gathers what the rocker parts: from (0,) to the left, from (1,) to the right.
        board = drawn("..a..", ".>.<.", feeders=(2, 2))
        self.assertEqual(undone(board, (1,), 2), (((0,), 0), ((0,), 1)))
        self.assertEqual(undone(board, (0,), 2), (((1,), 0), ((1,), 1)))

    def test_rising(self):
        # A ball turns group 0 once where it leans to the left, twice where to the right: behind both it is 1.
        board = drawn("..a..", "...<.", "..a..", feeders=(2,))
        self.assertEqual(undone(board, (1,), 1), (((0,), 0), ((1,), 0)))
        self.assertEqual(undone(board, (0,), 1), ())

    def test_balls_that_are_stuck_come_out_nowhere(self):
        board = drawn(".a.", "s..", feeders=(1,))
        self.assertEqual(undone(board, (1,), 0), ())
        self.assertEqual(undone(board, (0,), 2), (((1,), 0),))
        self.assertEqual(undone(drawn("s"), (), 0), ())
        # Stuck in the last row, too, right above the door.
        self.assertEqual(undone(drawn("..", "s."), (), 0), ())

    def test_no_rows(self):
        self.assertEqual(undone(LEAST, (), 0), (((), 0),))
        for leans in all_leans(2):
            self.assertEqual(undone(plain_board(rows=0), leans, 0), ((leans, 0), (leans, 1)))
            self.assertEqual(undone(plain_board(rows=0), leans, 1), ())

    def test_doors_do_not_matter(self):
        board = drawn(".a.", feeders=(1,), doors=((7, None),) * 3)
        self.assertEqual(undone(board, (1,), 0), (((0,), 0),))
        self.assertEqual(undone(board, (1,), 2), ())

    def test_all_leans_and_feeders(self):
        found = set()
        for board in each_board(101):
            if board[1] <= 3:
                for leans in all_leans(board[1]):
                    for column in range(board[0]):
                        answer = undone(board, leans, column)
                        self.assertEqual(number_kinds(answer), number_kinds(model_undone(board, leans, column)))
                        found.add(len(answer))
        self.assertGreater(len(found), 4)

    def test_done_again(self):
        for board in each_board(102, 60):
            balls = 0
            for leans in all_leans(board[1]):
                for column in range(board[0]):
                    for ahead, feeder in undone(board, leans, column):
                        columns, turned, behind = way(board, ahead, feeder)
                        self.assertEqual((columns[-1], behind, len(columns)), (column, leans, len(board[2]) + 1))
                        balls += 1
            out = [ball for ball in comings(board) if ball[2] is not None]
            self.assertEqual(balls, len(out))

    def test_a_counter_is_undone_to_one(self):
        board = chain(8)
        for leans in all_leans(8)[::37]:
            pairs = [undone(board, leans, column) for column in range(board[0])]
            self.assertEqual(sum(len(found) for found in pairs), 1)

    def test_greatest_boards(self):
        dice = random.Random(103)
        for again in range(3):
            board = without_blind_places(rolled_board(dice, width=40, groups=8, rows=60, feeders=4))
            for column in (0, 20, 39):
                self.assertEqual(undone(board, (0, 1) * 4, column), model_undone(board, (0, 1) * 4, column))


class UndoClash(unittest.TestCase):
    def test_none(self):
        for board in (LEAST, drawn(".a.", feeders=(1,)), chain(8), drawn("s", feeders=(0, 0)), adder(1)):
            self.assertEqual(undo_clash(board), model_clash(board))
        for board in (LEAST, drawn(".a.", feeders=(1,)), drawn("s", feeders=(0, 0)), chain(4)):
            self.assertIsNone(undo_clash(board))
        for number in (1, 2, 5, 100):
            self.assertIsNone(undo_clash(counter(number)[0]))

    def test_two_feeders_above_one_column(self):
        self.assertEqual(undo_clash(drawn(".", feeders=(0, 0))), (((), 0), ((), 1)))
        self.assertEqual(undo_clash(drawn("...", feeders=(0, 1, 2, 1))), (((), 1), ((), 3)))
        self.assertEqual(undo_clash(drawn("...", feeders=(0, 1, 1, 0))), (((), 0), ((), 3)))
        self.assertEqual(undo_clash(plain_board(3, 3, 1, 4)), (((0, 0, 0), 0), ((0, 0, 0), 1)))

    def test_unlike_leans_ahead(self):
        board = drawn("..a..", "...<.", "..a..", feeders=(2,))
        self.assertEqual(undo_clash(board), (((0,), 0), ((1,), 0)))

    def test_the_least_second(self):
        # Feeders 1, 2 and 3 come to one door, and so does none else.
        self.assertEqual(undo_clash(drawn("...", feeders=(0, 2, 2, 2))), (((), 1), ((), 2)))

    def test_balls_that_are_stuck(self):
        self.assertIsNone(undo_clash(drawn("s", feeders=(0, 0, 0, 0))))
        self.assertEqual(undo_clash(drawn(".s", feeders=(1, 1, 0, 0))), (((), 2), ((), 3)))

    def test_all_two_pairs(self):
        found = set()
        for board in each_board(104, 200):
            expected = model_clash(board)
            answer = undo_clash(board)
            self.assertEqual(number_kinds(answer), number_kinds(expected))
            found.add(None if expected is None else expected[0] > ((0,) * board[1], 0))
            if answer is not None:
                self.assertIs(clash_holds(board, answer), True)
                self.assertIs(clash_holds(board, answer[::-1]), True)
        self.assertEqual(found, {None, True, False})

    def test_undone_to_just_one_where_there_are_no_two(self):
        for board in each_board(105, 60):
            if board[1] <= 3:
                many = [len(undone(board, leans, column)) for leans in all_leans(board[1]) for column in range(board[0])]
                self.assertEqual(undo_clash(board) is None, max(many) <= 1)

    def test_greatest_boards(self):
        dice = random.Random(106)
        found = set()
        for again in range(6):
            board = without_blind_places(rolled_board(dice, width=40, groups=8, rows=60, feeders=4))
            if again % 2:
                board = with_part(board, 3, (3, 17, 17, 39))
            answer = undo_clash(board)
            self.assertEqual(answer, model_clash_by_doors(board))
            found.add(answer is None)
        self.assertIn(False, found)


def model_clash_by_doors(board):
    """What undo_clash tells, from each pair on in its turn; by what comes out where."""
    ways = {}
    for leans, feeder, out, behind in comings(board):
        if out is not None:
            ways.setdefault((out, behind), []).append((leans, feeder))
    for leans, feeder, out, behind in comings(board):
        if out is not None and len(ways[out, behind]) > 1:
            return tuple(ways[out, behind][:2])
    return None


class ClashHolds(unittest.TestCase):
    board = drawn("..a..", "...<.", "..a..", feeders=(2, 2))

    def model_holds(self, board, thing):
        """[28] word by word."""
        if type(thing) is not tuple or len(thing) != 2:
            return False
        for pair in thing:
            if type(pair) is not tuple or len(pair) != 2 or not model_is_leans(board, pair[0]):
                return False
            if type(pair[1]) is not int or pair[1] not in range(len(board[3])):
                return False
        balls = {(leans, feeder): (out, behind) for leans, feeder, out, behind in comings(board)}
        one, other = thing
        return one != other and balls[one][0] is not None and balls[one] == balls[other]

    def test_any_two_in_either_order(self):
        pairs = [((0,), 0), ((0,), 1), ((1,), 0), ((1,), 1)]
        for one, other in itertools.product(pairs, repeat=2):
            self.assertIs(clash_holds(self.board, (one, other)), one != other)

    def test_all_two_pairs(self):
        held = set()
        for board in each_board(107, 80):
            if board[1] <= 2:
                pairs = [(leans, feeder) for leans in all_leans(board[1]) for feeder in range(len(board[3]))]
                for thing in itertools.product(pairs, repeat=2):
                    answer = clash_holds(board, thing)
                    self.assertIs(answer, self.model_holds(board, thing))
                    held.add(answer)
        self.assertEqual(held, {True, False})

    def test_balls_that_are_stuck(self):
        self.assertIs(clash_holds(drawn("s", feeders=(0, 0)), (((), 0), ((), 1))), False)
        self.assertIs(clash_holds(drawn(".", feeders=(0, 0)), (((), 0), ((), 1))), True)
        # Both are stuck in the last row, above one door.
        self.assertIs(clash_holds(drawn("..", ".s", feeders=(1, 1)), (((), 0), ((), 1))), False)
        # One comes out, the other one is stuck.
        self.assertIs(clash_holds(drawn(".s", feeders=(0, 1)), (((), 0), ((), 1))), False)

    def test_other_doors_and_other_leans(self):
        self.assertIs(clash_holds(drawn("..", feeders=(0, 1)), (((), 0), ((), 1))), False)
        # Doors of one name and call are two doors still.
        self.assertIs(clash_holds(drawn("..", feeders=(0, 1), doors=((5, 0), (5, 0))), (((), 0), ((), 1))), False)
        board = drawn("..a..", ".>.<.", feeders=(2,))
        self.assertIs(clash_holds(board, (((0,), 0), ((1,), 0))), False)

    def test_parts_more_and_fewer(self):
        one, other = ((0,), 0), ((1,), 0)
        self.assertIs(clash_holds(self.board, (one, other)), True)
        for thing in ((one,), (), (one, other, one), (one, other, ((0,), 1)), [one, other], (one + (0,), other),
                      (one[:1], other), (one, other[1:]), (one[::-1], other), one + other, one, (one, None)):
            self.assertIs(clash_holds(self.board, thing), False)

    def test_kinds(self):
        for thing in ((((0,), 0), ((1,), 1)), (((1,), 0), ((0,), 0))):
            self.assertIs(clash_holds(self.board, thing), True)
            for changed in kinds_changed(thing):
                self.assertIs(clash_holds(self.board, changed), False, changed)

    def test_things_of_any_kind(self):
        one, other = ((0, 1), 0), ((1, 1), 1)
        for thing in others() + [0, 1, (), one] + no_leans() + no_feeders():
            with self.subTest(thing=str(thing)[:60]):
                for changed in (thing, (thing, other), (one, thing), (thing, thing), ((thing, 0), other),
                                ((one[0], thing), other), (one, (thing, 1)), (one, (other[0], thing))):
                    self.assertIs(clash_holds(MIXED, changed), self.model_holds(MIXED, changed))

    def test_feeders_that_are_not_there(self):
        for feeder in (-1, -2, 2, 3, 10 ** 59):
            for pair in (((0,), 0), ((1,), 1)):
                self.assertIs(clash_holds(self.board, (pair, ((1,), feeder))), False)
                self.assertIs(clash_holds(self.board, (((0,), feeder), pair)), False)

    def test_of_a_stand_without_a_feeder(self):
        self.assertIs(clash_holds(self.board, (((0,), None), ((1,), None))), False)
        self.assertIs(clash_holds(self.board, (((0,), 0), ((1,), None))), False)


class Refused(unittest.TestCase):
    def test_no_board_comes_first(self):
        for board in no_boards():
            with self.subTest(board=str(board)[:60]):
                self.assertIs(refusal(undo_clash, board), NoBoard)
                for thing in (None, (((0, 1), 0), ((1, 1), 1)), []):
                    self.assertIs(refusal(clash_holds, board, thing), NoBoard)
                for leans, column in (((0, 1), 0), (None, 0), ((0, 1), None), ([], -1)):
                    self.assertIs(refusal(undone, board, leans, column), NoBoard)

    def test_fault_comes_then(self):
        expected = (Fault,) + FAULTY_AT
        self.assertEqual(refusal(undo_clash, FAULTY), expected)
        self.assertEqual(refusal(undo_clash, with_place(FAULTY, 0, 0, "x")), (Fault, 0, 0))
        for thing in (None, (((0, 1), 0), ((1, 1), 1)), []):
            self.assertEqual(refusal(clash_holds, FAULTY, thing), expected)
        for leans, column in (((0, 1), 0), (None, 0), ((0, 1), None), ([], -1)):
            self.assertEqual(refusal(undone, FAULTY, leans, column), expected)

    def test_no_leans_comes_then(self):
        for leans in no_leans() + [()]:
            for column in (0, 4, 5, -1, None, True):
                with self.subTest(leans=str(leans)[:60]):
                    self.assertIs(refusal(undone, MIXED, leans, column), NoLeans)

    def test_no_number_comes_last(self):
        for column in no_numbers(0, 4) + [True, False, 5, -1]:
            with self.subTest(column=str(column)[:60]):
                self.assertIs(refusal(undone, MIXED, (0, 1), column), NoNumber)

    def test_just_at_the_bounds(self):
        for width in (1, 2, 3, 40):
            for column in (-1, 0, 1, 2, 3, 39, 40, 41):
                expected = None if 0 <= column < width else NoNumber
                self.assertIs(refusal(undone, plain_board(width), (0, 1), column), expected)

    def test_what_is_handed_in_stays(self):
        for thing in others() + [[[(0, 1), 0], [(1, 1), 1]], ([0, 1], 0), (((0, 1), 0), [(1, 1), 1])]:
            before = copy.deepcopy(thing)
            clash_holds(MIXED, thing)
            refusal(undo_clash, thing)
            refusal(undone, thing, thing, thing)
            refusal(undone, MIXED, thing, thing)
            refusal(undone, MIXED, (0, 1), thing)
            self.assertEqual(thing, before)

    def test_the_same_each_time(self):
        boards = list(each_board(108, 40))
        first = [(undo_clash(board), undone(board, (1,) * board[1], 0)) for board in boards]
        for again in range(2):
            self.assertEqual([(undo_clash(board), undone(board, (1,) * board[1], 0)) for board in boards], first)


if __name__ == "__main__":
    unittest.main()
