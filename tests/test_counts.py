"""after and after_holds [3], [16], and what they refuse [2], [4], [8]."""

import collections
import copy
import random
import unittest

from ballrockers.counts import after, after_holds
from ballrockers.errors import Fault, NoBoard, NoNumber, NoStand
from ballrockers.ever import for_ever
from ballrockers.runs import called
from samples import (
    FAULTY, FAULTY_AT, LEAST, MIXED, chain, changed_papers, counting_by_four, digits_of, drawn, kinds_changed,
    model_called, no_boards, no_numbers, no_stands, number_kinds, others, refusal, rolled_leans, rolled_turning_board,
    with_part, with_place,
)

MOST = 10 ** 50

# Balls come out by 5, by 6, and then by 7 and 8 in turns, for ever.
LEADING = drawn("....", feeders=(0, 1, 2, 3), doors=((5, 1), (6, 2), (7, 3), (8, 2)))
END = drawn(".a.", feeders=(1,), doors=((1, 0), (2, 0), (3, None)))
STUCK = drawn(".A.", "s..", feeders=(1,), doors=((1, 0), (2, 0), (3, 0)))


def model_after(board, stand, number):
    """What after tells, ball after ball."""
    names, behind = model_called(board, stand, number)
    counted = collections.Counter(name for name in names if name is not None)
    return (behind, tuple(sorted(counted.items())), len(names))


def by_division(board, stand, number):
    """What after tells of a number of balls that is beyond lead and round of a board whose balls never end."""
    stands, back = for_ever(board, stand)
    length = len(stands) - back
    least = back + (number - back) % length
    behind, pairs, balls = model_after(board, stand, least)
    turn = collections.Counter(dict(model_after(board, stands[back], length)[1]))
    counted = collections.Counter(dict(pairs))
    for name in turn:
        counted[name] += turn[name] * ((number - least) // length)
    return (behind, tuple(sorted(counted.items())), number)


def each_stand():
    """Boards with a stand, of all kinds of ends and rounds."""
    dice = random.Random(71)
    yield LEAST, ((), 0)
    yield LEAST, ((), None)
    for board in (MIXED, END, STUCK, LEADING, chain(2)):
        for feeder in [None] + list(range(len(board[3]))):
            yield board, (rolled_leans(dice, board), feeder)
    for again in range(25):
        board = rolled_turning_board(dice, dice.randint(0, 4), dice.randint(1, 4), dice.randint(0, 1))
        if again % 2:
            board = with_part(board, 4, tuple((name, 0 if call is None else call) for name, call in board[4]))
        yield board, (rolled_leans(dice, board), dice.randrange(len(board[3])))


class After(unittest.TestCase):
    def test_no_balls(self):
        for board, stand in each_stand():
            self.assertEqual(after(board, stand, 0), (stand, (), 0))

    def test_one_ball(self):
        self.assertEqual(after(LEADING, ((), 0), 1), (((), 1), ((5, 1),), 1))
        self.assertEqual(after(LEAST, ((), 0), 1), (((), 0), ((0, 1),), 1))

    def test_lead_and_round(self):
        for number, behind, pairs in (
            (1, 1, ((5, 1),)),
            (2, 2, ((5, 1), (6, 1))),
            (3, 3, ((5, 1), (6, 1), (7, 1))),
            (4, 2, ((5, 1), (6, 1), (7, 1), (8, 1))),
            (5, 3, ((5, 1), (6, 1), (7, 2), (8, 1))),
            (6, 2, ((5, 1), (6, 1), (7, 2), (8, 2))),
            (1003, 3, ((5, 1), (6, 1), (7, 501), (8, 500))),
            (10 ** 18, 2, ((5, 1), (6, 1), (7, 5 * 10 ** 17 - 1), (8, 5 * 10 ** 17 - 1))),
            (MOST, 2, ((5, 1), (6, 1), (7, MOST // 2 - 1), (8, MOST // 2 - 1))),
            (MOST - 1, 3, ((5, 1), (6, 1), (7, MOST // 2 - 1), (8, MOST // 2 - 2))),
        ):
            with self.subTest(number=number):
                self.assertEqual(after(LEADING, ((), 0), number), (((), behind), pairs, number))

    def test_an_end_ahead_of_number(self):
        self.assertEqual(after(END, ((0,), 0), 1), (((1,), 0), ((1, 1),), 1))
        for number in (2, 3, 4, 1000, 10 ** 18, MOST):
            self.assertEqual(after(END, ((0,), 0), number), (((0,), None), ((1, 1), (3, 1)), 2))

    def test_no_feeder(self):
        for number in (0, 1, 2, 10 ** 18, MOST):
            self.assertEqual(after(MIXED, ((0, 1), None), number), (((0, 1), None), (), 0))

    def test_a_ball_that_is_stuck(self):
        # It's one of the balls, and in no pair.
        self.assertEqual(after(STUCK, ((0,), 0), 1), (((1,), 0), ((3, 1),), 1))
        for number in (2, 3, 1000, MOST):
            self.assertEqual(after(STUCK, ((0,), 0), number), (((0,), None), ((3, 1),), 2))
        for number in (1, 2, MOST):
            self.assertEqual(after(STUCK, ((1,), 0), number), (((0,), None), (), 1))

    def test_names_that_several_doors_have(self):
        board = with_part(LEADING, 4, ((5, 1), (9, 2), (5, 3), (0, 2)))
        self.assertEqual(after(board, ((), 0), 7), (((), 3), ((0, 2), (5, 4), (9, 1)), 7))

    def test_counting(self):
        for groups in range(9):
            for number in (0, 1, 2 ** groups - 1, 2 ** groups, 2 ** groups + 1, 1000, 10 ** 18, MOST):
                over = number // 2 ** groups
                pairs = tuple(pair for pair in ((0, number - over), (1, over)) if pair[1])
                expected = ((digits_of(number, groups), 0), pairs, number)
                self.assertEqual(after(chain(groups), ((0,) * groups, 0), number), expected)

    def test_the_most_stands(self):
        board, stand = counting_by_four(), ((0,) * 8, 0)
        for number in (0, 1, 3, 4, 1022, 1023, 1024, 1025, 1026):
            self.assertEqual(after(board, stand, number), model_after(board, stand, number))
        last = (((0,) * 8, None), ((0, 255), (1, 1), (7, 256), (8, 256), (9, 256)), 1024)
        for number in (1024, 1025, 10 ** 18, MOST):
            self.assertEqual(after(board, stand, number), last)

    def test_the_longest_round(self):
        board, stand = counting_by_four(0), ((0,) * 8, 0)
        for number in (1023, 1024, 1025, 2047, 2048):
            self.assertEqual(after(board, stand, number), model_after(board, stand, number))
        for number in (10 ** 18, MOST - 1, MOST):
            self.assertEqual(after(board, stand, number), by_division(board, stand, number))

    def test_small_numbers(self):
        for board, stand in each_stand():
            for number in list(range(40)) + [100, 1000]:
                answer = after(board, stand, number)
                self.assertEqual(number_kinds(answer), number_kinds(model_after(board, stand, number)))
                names, behind = called(board, stand, number)
                self.assertEqual((answer[0], answer[2]), (behind, len(names)))

    def test_around_where_lead_and_round_end(self):
        for board, stand in each_stand():
            stands, back = for_ever(board, stand)
            lead = len(stands) if back is None else back
            for around in (lead, len(stands), 2 * len(stands) - lead, 3 * len(stands) - 2 * lead):
                for number in range(max(0, around - 2), around + 3):
                    self.assertEqual(after(board, stand, number), model_after(board, stand, number))

    def test_great_numbers(self):
        dice = random.Random(72)
        leads = set()
        for board, stand in each_stand():
            stands, back = for_ever(board, stand)
            if back is None:
                continue
            leads.add(back > 0)
            for number in [10 ** 18, 10 ** 18 + 1, MOST - 1, MOST] + [dice.randrange(2000, MOST) for again in range(5)]:
                answer = after(board, stand, number)
                self.assertEqual(number_kinds(answer), number_kinds(by_division(board, stand, number)))
                self.assertEqual(sum(many for name, many in answer[1]), number)
        self.assertEqual(leads, {True, False})

    def test_names_rise_and_each_came(self):
        for board, stand in each_stand():
            for number in (1, 7, 10 ** 30):
                pairs = after(board, stand, number)[1]
                self.assertEqual(list(pairs), sorted(pairs))
                self.assertEqual(len(dict(pairs)), len(pairs))
                self.assertTrue(all(many > 0 for name, many in pairs))


class Holds(unittest.TestCase):
    numbers = (0, 1, 2, 5, 1000, 10 ** 18, MOST)

    def test_what_after_tells(self):
        for board, stand in each_stand():
            paper = for_ever(board, stand)
            for number in self.numbers:
                thing = after(board, stand, number)
                self.assertIs(after_holds(board, stand, number, paper, thing), True)

    def test_changed_things(self):
        for board, stand in each_stand():
            paper = for_ever(board, stand)
            for number in self.numbers:
                thing = after(board, stand, number)
                for changed in changed_papers(thing) + list(kinds_changed(thing)):
                    self.assertIs(after_holds(board, stand, number, paper, changed), False, changed)

    def test_changed_papers(self):
        for board, stand in each_stand():
            paper = for_ever(board, stand)
            if len(paper[0]) > 6:
                continue
            for number in (0, 3, 10 ** 18):
                thing = after(board, stand, number)
                for changed in changed_papers(paper) + list(kinds_changed(paper)):
                    self.assertIs(after_holds(board, stand, number, changed, thing), False, changed)

    def test_other_numbers(self):
        for board, stand in each_stand():
            paper = for_ever(board, stand)
            for number in self.numbers:
                thing = after(board, stand, number)
                for other in {number - 1, number + 1, number + 2, 2 * number + 1, 0, 1, 10 ** 49}:
                    held = 0 <= other <= MOST and after(board, stand, other) == thing
                    self.assertIs(after_holds(board, stand, other, paper, thing), held)

    def test_no_numbers(self):
        # An end tells the same of all greater numbers: yet these are none.
        for board, stand in ((END, ((0,), 0)), (MIXED, ((0, 1), None)), (LEADING, ((), 0))):
            paper = for_ever(board, stand)
            for number in no_numbers(0, MOST) + [-1, MOST + 1, True, False]:
                for thing in (after(board, stand, 0), after(board, stand, 1), after(board, stand, MOST)):
                    with self.subTest(number=str(number)[:60]):
                        self.assertIs(after_holds(board, stand, number, paper, thing), False)

    def test_just_at_the_bounds(self):
        paper = for_ever(END, ((0,), 0))
        thing = after(END, ((0,), 0), MOST)
        for number, held in ((2, True), (MOST - 1, True), (MOST, True), (MOST + 1, False), (10 ** 59, False)):
            self.assertIs(after_holds(END, ((0,), 0), number, paper, thing), held)

    def test_things_of_any_kind(self):
        for board, stand, number in ((MIXED, ((0, 1), 1), 3), (LEAST, ((), 0), MOST), (LEAST, ((), None), 0)):
            paper = for_ever(board, stand)
            behind, pairs, balls = after(board, stand, number)
            own = number_kinds((behind, pairs, balls))
            for thing in others() + [0, (), ((), (), 0), paper]:
                with self.subTest(thing=str(thing)[:60]):
                    self.assertIs(after_holds(board, stand, number, thing, (behind, pairs, balls)), thing == paper)
                    for changed in (
                        thing, (thing, pairs, balls), (behind, thing, balls), (behind, pairs, thing),
                        (behind, pairs + (thing,), balls), (behind, pairs + ((0, thing),), balls),
                        ((thing, behind[1]), pairs, balls), ((behind[0], thing), pairs, balls),
                    ):
                        held = number_kinds(changed) == own
                        self.assertIs(after_holds(board, stand, number, paper, changed), held)

    def test_the_most_stands(self):
        for board in (counting_by_four(), counting_by_four(0)):
            paper = for_ever(board, ((0,) * 8, 0))
            for number in (1023, 1024, 1025, MOST):
                thing = after(board, ((0,) * 8, 0), number)
                self.assertIs(after_holds(board, ((0,) * 8, 0), number, paper, thing), True)
                self.assertIs(after_holds(board, ((0,) * 8, 0), number - 2, paper, thing), thing[2] <= number - 2)


class Refused(unittest.TestCase):
    def asks(self):
        yield after
        paper = for_ever(MIXED, ((0, 1), 0))
        for papers in ((None, None), (paper, after(MIXED, ((0, 1), 0), 3)), ([], ()), (paper, None)):
            yield lambda board, stand, number, papers=papers: after_holds(board, stand, number, *papers)

    def test_no_board_comes_first(self):
        for ask in self.asks():
            for board in no_boards():
                for stand, number in ((((0, 1), 0), 3), (None, 3), (((0, 1), 0), None), ([], -1)):
                    with self.subTest(board=str(board)[:60]):
                        self.assertIs(refusal(ask, board, stand, number), NoBoard)

    def test_fault_comes_then(self):
        for ask in self.asks():
            for stand, number in ((((0, 1), 0), 3), (None, 3), (((0, 1), 0), None), ([], -1)):
                self.assertEqual(refusal(ask, FAULTY, stand, number), (Fault,) + FAULTY_AT)
                self.assertEqual(refusal(ask, with_place(FAULTY, 0, 0, "x"), stand, number), (Fault, 0, 0))

    def test_no_stand_comes_then(self):
        for ask in self.asks():
            for stand in no_stands():
                for number in (0, 3, -1, MOST + 1, None, True):
                    with self.subTest(stand=str(stand)[:60]):
                        self.assertIs(refusal(ask, MIXED, stand, number), NoStand)

    def test_no_number_comes_last(self):
        for number in no_numbers(0, MOST):
            for stand in (((0, 1), 0), ((0, 1), 1), ((0, 1), None)):
                with self.subTest(number=str(number)[:60]):
                    self.assertIs(refusal(after, MIXED, stand, number), NoNumber)

    def test_just_at_the_bounds(self):
        for number, refused in ((-1, NoNumber), (0, None), (1, None), (MOST - 1, None), (MOST, None),
                                (MOST + 1, NoNumber), (10 ** 59, NoNumber), (True, NoNumber), (False, NoNumber)):
            self.assertIs(refusal(after, LEAST, ((), 0), number), refused)

    def test_the_checker_refuses_no_number(self):
        for number in no_numbers(0, MOST):
            self.assertIsNone(refusal(after_holds, MIXED, ((0, 1), 0), number, number, number))


class Unchanged(unittest.TestCase):
    def test_what_is_handed_in_stays(self):
        for thing in others() + [[[[[0, 1], 0]], None], ([((0, 1), 0)], 0), [((0, 1), 0), [], 0]]:
            before = copy.deepcopy(thing)
            paper = for_ever(MIXED, ((0, 1), 0))
            after_holds(MIXED, ((0, 1), 0), thing, paper, thing)
            after_holds(MIXED, ((0, 1), 0), 3, thing, thing)
            after_holds(MIXED, ((0, 1), 0), 3, paper, thing)
            refusal(after, thing, thing, thing)
            refusal(after, MIXED, thing, thing)
            refusal(after, MIXED, ((0, 1), 0), thing)
            refusal(after_holds, MIXED, thing, thing, thing, thing)
            self.assertEqual(thing, before)

    def test_the_same_each_time(self):
        told = [(board, stand, number, after(board, stand, number))
                for board, stand in each_stand() for number in (0, 5, MOST)]
        for again in range(2):
            for board, stand, number, thing in told[::-1]:
                self.assertEqual(after(board, stand, number), thing)
                self.assertIs(after_holds(board, stand, number, for_ever(board, stand), thing), True)


if __name__ == "__main__":
    unittest.main()
