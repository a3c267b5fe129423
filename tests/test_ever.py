"""for_ever [14], for_ever_holds [15], and what they refuse [2], [4], [8]."""

import copy
import random
import unittest

from ballrockers.boards import all_leans, is_stand
from ballrockers.errors import Fault, NoBoard, NoStand
from ballrockers.ever import for_ever, for_ever_holds
from ballrockers.runs import called
from samples import (
    FAULTY, FAULTY_AT, LEAST, MIXED, chain, changed_papers, counting_by_four, digits_of, drawn, kinds_changed,
    model_called, no_boards, no_stands, number_kinds, others, plain_board, refusal, rolled_board, rolled_leans,
    rolled_turning_board, with_part, with_place,
)

# From (0,) on the first ball turns the rocker once, each further one twice: a lead of one stand, a round of one.
LEAD = drawn("..a..", "...<.", "..a..", feeders=(2,))
# The first ball calls the next one, that one none.
END = drawn(".a.", feeders=(1,), doors=((1, 0), (2, 0), (3, None)))
# The second ball is stuck.
STUCK = drawn(".A.", "s..", feeders=(1,))


def model_for_ever(board, stand):
    """What for_ever tells, ball after ball."""
    stands = [stand]
    while stands[-1][1] is not None:
        behind = model_called(board, stands[-1], 1)[1]
        if behind in stands:
            return (tuple(stands), stands.index(behind))
        stands.append(behind)
    return (tuple(stands), None)


def each_stand():
    """Boards with a stand, of all kinds of ends and rounds."""
    dice = random.Random(61)
    yield LEAST, ((), 0)
    yield LEAST, ((), None)
    for board in (MIXED, LEAD, END, STUCK, chain(1), chain(2)):
        for leans in all_leans(board[1]):
            for feeder in [None] + list(range(len(board[3]))):
                yield board, (leans, feeder)
    for again in range(30):
        board = rolled_turning_board(dice, dice.randint(0, 3), dice.randint(1, 4), dice.randint(0, 1))
        yield board, (rolled_leans(dice, board), dice.randrange(len(board[3])))


class ForEver(unittest.TestCase):
    def test_a_stand_without_a_feeder(self):
        self.assertEqual(for_ever(LEAST, ((), None)), ((((), None),), None))
        for leans in all_leans(2):
            self.assertEqual(for_ever(MIXED, (leans, None)), (((leans, None),), None))

    def test_an_end_by_a_door_that_calls_none(self):
        self.assertEqual(for_ever(END, ((0,), 0)), ((((0,), 0), ((1,), 0), ((0,), None)), None))
        self.assertEqual(for_ever(END, ((1,), 0)), ((((1,), 0), ((0,), None)), None))

    def test_an_end_by_a_ball_that_is_stuck(self):
        self.assertEqual(for_ever(STUCK, ((0,), 0)), ((((0,), 0), ((1,), 0), ((0,), None)), None))
        self.assertEqual(for_ever(STUCK, ((1,), 0)), ((((1,), 0), ((0,), None)), None))
        self.assertEqual(for_ever(drawn("s"), ((), 0)), ((((), 0), ((), None)), None))

    def test_a_round_from_the_first_stand_on(self):
        self.assertEqual(for_ever(LEAST, ((), 0)), ((((), 0),), 0))
        self.assertEqual(for_ever(chain(1), ((0,), 0)), ((((0,), 0), ((1,), 0)), 0))
        self.assertEqual(for_ever(chain(1), ((1,), 0)), ((((1,), 0), ((0,), 0)), 0))
        self.assertEqual(for_ever(LEAD, ((1,), 0)), ((((1,), 0),), 0))

    def test_a_round_behind_a_lead(self):
        self.assertEqual(for_ever(LEAD, ((0,), 0)), ((((0,), 0), ((1,), 0)), 1))
        board = drawn("....", feeders=(0, 1, 2, 3), doors=((0, 1), (0, 2), (0, 3), (0, 2)))
        for feeder, feeders, back in ((0, (0, 1, 2, 3), 2), (1, (1, 2, 3), 1), (2, (2, 3), 0), (3, (3, 2), 0)):
            self.assertEqual(for_ever(board, ((), feeder)), (tuple(((), at) for at in feeders), back))

    def test_the_same_leans_by_another_feeder_are_another_stand(self):
        board = drawn("..", feeders=(0, 1), doors=((0, 1), (0, 0)))
        self.assertEqual(for_ever(board, ((), 1)), ((((), 1), ((), 0)), 0))

    def test_counting(self):
        for groups in range(9):
            stands, back = for_ever(chain(groups), ((0,) * groups, 0))
            self.assertEqual(stands, tuple((digits_of(number, groups), 0) for number in range(2 ** groups)))
            self.assertEqual(number_kinds(back), (int, 0))

    def test_the_most_stands(self):
        stands, back = for_ever(counting_by_four(), ((0,) * 8, 0))
        expected = [(digits_of(number // 4, 8), number % 4) for number in range(1024)]
        self.assertEqual(stands, tuple(expected) + (((0,) * 8, None),))
        self.assertIsNone(back)
        self.assertIs(for_ever_holds(counting_by_four(), ((0,) * 8, 0), (stands, back)), True)

    def test_the_longest_round(self):
        for begin in (0, 1, 2, 511, 1023):
            begun = (digits_of(begin // 4, 8), begin % 4)
            stands, back = for_ever(counting_by_four(0), begun)
            self.assertEqual((len(stands), stands[0], back), (1024, begun, 0))

    def test_kinds(self):
        for board, stand in each_stand():
            stands, back = for_ever(board, stand)
            self.assertIs(type(stands), tuple)
            self.assertIn(type(back), (int, type(None)))
            self.assertEqual(number_kinds((stands, back)), number_kinds(model_for_ever(board, stand)))
            for each in stands:
                self.assertIs(is_stand(board, each), True)

    def test_each_next_one_by_one_ball(self):
        for board, stand in each_stand():
            stands, back = for_ever(board, stand)
            self.assertEqual(stands[0], stand)
            self.assertEqual(len(set(stands)), len(stands))
            for one, following in zip(stands, stands[1:]):
                self.assertEqual(called(board, one, 1)[1], following)
                self.assertIsNotNone(one[1])
            if back is None:
                self.assertIsNone(stands[-1][1])
            else:
                self.assertEqual(called(board, stands[-1], 1)[1], stands[back])

    def test_all_ends_come(self):
        ends = set()
        for board, stand in each_stand():
            stands, back = for_ever(board, stand)
            ends.add((len(stands) > 1, back is None, back == 0))
        self.assertEqual(len(ends), 5)

    def test_rolled_boards(self):
        dice = random.Random(62)
        longest = 0
        for again in range(200):
            board = rolled_turning_board(dice, dice.randint(0, 6), dice.randint(1, 4))
            board = with_part(board, 4, tuple((name, 0 if call is None else call) for name, call in board[4]))
            stand = (rolled_leans(dice, board), dice.randrange(len(board[3])))
            answer = for_ever(board, stand)
            self.assertEqual(answer, model_for_ever(board, stand))
            self.assertIs(for_ever_holds(board, stand, answer), True)
            longest = max(longest, len(answer[0]))
        self.assertGreater(longest, 20)

    def test_greatest_boards(self):
        dice = random.Random(63)
        for again in range(5):
            board = rolled_board(dice, width=40, groups=8, rows=60, feeders=4)
            stand = (rolled_leans(dice, board), dice.randrange(4))
            self.assertEqual(for_ever(board, stand), model_for_ever(board, stand))


class Holds(unittest.TestCase):
    def test_what_for_ever_tells(self):
        for board, stand in each_stand():
            self.assertIs(for_ever_holds(board, stand, for_ever(board, stand)), True)
            self.assertIs(for_ever_holds(board, stand, model_for_ever(board, stand)), True)

    def test_with_a_part_changed(self):
        for board, stand in each_stand():
            for paper in changed_papers(for_ever(board, stand)):
                self.assertIs(for_ever_holds(board, stand, paper), False, paper)

    def test_kinds(self):
        for board, stand in each_stand():
            for paper in kinds_changed(for_ever(board, stand)):
                self.assertIs(for_ever_holds(board, stand, paper), False, paper)

    def test_another_back(self):
        for board, stand in each_stand():
            stands, back = for_ever(board, stand)
            for other in [None, True, False, "0", (0,), -1] + list(range(len(stands) + 2)):
                held = type(other) is type(back) and other == back
                self.assertIs(for_ever_holds(board, stand, (stands, other)), held)

    def test_begun_at_another_stand(self):
        board = chain(3)
        stands, back = for_ever(board, ((0,) * 3, 0))
        for at in range(1, 8):
            moved = stands[at:] + stands[:at]
            self.assertIs(for_ever_holds(board, stands[at], (moved, 0)), True)
            self.assertIs(for_ever_holds(board, stands[at], (stands, back)), False)
            self.assertIs(for_ever_holds(board, stands[0], (moved, 0)), False)
            self.assertIs(for_ever_holds(board, stands[at], (stands[at:], 0)), False)

    def test_gone_through_twice(self):
        for board, stand in each_stand():
            stands, back = for_ever(board, stand)
            if back is not None:
                more = stands + stands[back:]
                for at in range(len(more)):
                    self.assertIs(for_ever_holds(board, stand, (more, at)), False)
                self.assertIs(for_ever_holds(board, stand, (more, None)), False)
                self.assertIs(for_ever_holds(board, stand, (stands + (stands[back],), back + 1)), False)
            self.assertIs(for_ever_holds(board, stand, (stands + stands, back)), False)
            self.assertIs(for_ever_holds(board, stand, (stands + (stands[-1],), back)), False)

    def test_ended_too_early(self):
        for board, stand in each_stand():
            stands, back = for_ever(board, stand)
            for many in range(len(stands)):
                for other in (None, 0, back):
                    self.assertIs(for_ever_holds(board, stand, (stands[:many], other)), False)

    def test_a_lead_left_out(self):
        stands, back = for_ever(LEAD, ((0,), 0))
        for paper in ((stands[1:], 0), (stands, 0), (stands[::-1], 0), (stands[::-1], 1), (stands[:1], 0)):
            self.assertIs(for_ever_holds(LEAD, ((0,), 0), paper), False)

    def test_the_most_stands(self):
        board, stand = counting_by_four(), ((0,) * 8, 0)
        stands, back = for_ever(board, stand)
        for at in (0, 1, 2, 500, 1022, 1023, 1024):
            leans, feeder = stands[at]
            other = ((1 - leans[0],) + leans[1:], feeder)
            papers = [stands[:at] + stands[at + 1:], stands[:at] + (stands[at],) + stands[at:]]
            papers += [stands[:at] + (changed,) + stands[at + 1:] for changed in (other, list(stands[at]), None, 0)]
            for changed in papers:
                self.assertIs(for_ever_holds(board, stand, (changed, back)), False)
        for paper in ((stands * 2, None), (stands, 0), (stands, 1024), (list(stands), None), [stands, None]):
            self.assertIs(for_ever_holds(board, stand, paper), False)

    def test_of_another_board_or_stand(self):
        told = [(board, stand, for_ever(board, stand)) for board, stand in each_stand()]
        for board, stand, own in told:
            for other_board, other_stand, paper in told:
                self.assertIs(for_ever_holds(board, stand, paper), paper == own)

    def test_things_of_any_kind(self):
        for board, stand in ((MIXED, ((0, 1), 1)), (LEAST, ((), 0)), (LEAST, ((), None)), (LEAD, ((0,), 0))):
            stands, back = for_ever(board, stand)
            own = number_kinds((stands, back))
            for thing in others() + [(), ((), None), ((), 0), stands, (stands,)]:
                for paper in (
                    thing, (thing, back), (stands, thing), (stands + (thing,), back), ((thing,) + stands[1:], back),
                    (((thing, stand[1]),) + stands[1:], back), (((stand[0], thing),) + stands[1:], back),
                ):
                    with self.subTest(thing=str(paper)[:60]):
                        self.assertIs(for_ever_holds(board, stand, paper), number_kinds(paper) == own)


class Refused(unittest.TestCase):
    def asks(self):
        yield for_ever
        for paper in (None, for_ever(MIXED, ((0, 1), 0)), [], ((), None)):
            yield lambda board, stand, paper=paper: for_ever_holds(board, stand, paper)

    def test_no_board_comes_first(self):
        for ask in self.asks():
            for board in no_boards():
                for stand in (((0, 1), 0), None, [(0, 1), 0], ((0, 1), 2)):
                    with self.subTest(board=str(board)[:60]):
                        self.assertIs(refusal(ask, board, stand), NoBoard)

    def test_fault_comes_then(self):
        for ask in self.asks():
            for stand in (((0, 1), 0), None, [(0, 1), 0], ((0, 1), 2)):
                self.assertEqual(refusal(ask, FAULTY, stand), (Fault,) + FAULTY_AT)
                self.assertEqual(refusal(ask, with_place(FAULTY, 0, 0, "x"), stand), (Fault, 0, 0))

    def test_no_stand_comes_last(self):
        for ask in self.asks():
            for stand in no_stands():
                with self.subTest(stand=str(stand)[:60]):
                    self.assertIs(refusal(ask, MIXED, stand), NoStand)

    def test_as_many_feeders_as_there_are(self):
        for ask in self.asks():
            for feeders in range(1, 5):
                for feeder in range(-1, 6):
                    expected = None if 0 <= feeder < feeders else NoStand
                    self.assertIs(refusal(ask, plain_board(feeders=feeders), ((0, 1), feeder)), expected)

    def test_nothing_else_is_refused(self):
        for groups in range(9):
            board = plain_board(groups=groups)
            self.assertIsNone(refusal(for_ever, board, ((0,) * groups, 1)))
            for thing in others():
                self.assertIsNone(refusal(for_ever_holds, board, ((0,) * groups, 1), thing))


class Unchanged(unittest.TestCase):
    def test_what_is_handed_in_stays(self):
        for thing in others() + [[[[[0, 1], 0]], None], ([((0, 1), 0)], 0), ([[0, 1], 0],)]:
            before = copy.deepcopy(thing)
            for_ever_holds(MIXED, ((0, 1), 0), thing)
            refusal(for_ever, thing, thing)
            refusal(for_ever, MIXED, thing)
            refusal(for_ever_holds, MIXED, thing, thing)
            self.assertEqual(thing, before)

    def test_the_same_each_time(self):
        told = [(board, stand, for_ever(board, stand)) for board, stand in each_stand()]
        for again in range(2):
            for board, stand, paper in told[::-1]:
                self.assertEqual(for_ever(board, stand), paper)
                self.assertIs(for_ever_holds(board, stand, paper), True)


if __name__ == "__main__":
    unittest.main()
