"""doors_word, word_holds [17], and what they refuse [2], [3], [4], [8]."""

import copy
import itertools
import random
import unittest

from ballrockers.counters import counter
from ballrockers.errors import Fault, NoBoard, NoStand
from ballrockers.ever import for_ever
from ballrockers.machines import word_board
from ballrockers.runs import called
from ballrockers.words import doors_word, word_holds
from samples import (
    FAULTY, FAULTY_AT, LEAST, MIXED, chain, changed_papers, counting_by_four, drawn, kinds_changed, model_called,
    no_boards, no_stands, number_kinds, others, refusal, rolled_board, rolled_leans, rolled_turning_board, with_part,
    with_place,
)


def calling(doors):
    """A board without a rocker whose doors, in columns 0 to 3, are these."""
    return drawn("....", feeders=(0, 1, 2, 3), doors=doors)


def each_stand():
    dice = random.Random(71)
    yield LEAST, ((), 0)
    yield LEAST, ((), None)
    for leans in ((0, 0), (0, 1), (1, 0), (1, 1)):
        for feeder in (0, 1, None):
            yield MIXED, (leans, feeder)
    for again in range(250):
        if again % 2:
            board = rolled_board(dice)
        else:
            board = rolled_turning_board(dice, dice.randint(1, 4), dice.randint(1, 4))
            board = with_part(board, 4, tuple((dice.choice((0, 0, 1)), dice.randrange(len(board[3]))) for door in board[4]))
        yield board, (rolled_leans(dice, board), dice.randrange(len(board[3])))


def words_of_names(names):
    """All pairs (lead, round) that tell just these names at first, the round with the fewest, then the lead, first."""
    for size in range(1, len(names) // 2):
        for lead in range(len(names) // 2):
            if all(names[at] == names[at + size] for at in range(lead, len(names) - size)):
                yield names[:lead], names[lead:lead + size]


def gone_through(board, stand):
    """What doors_word tells, by the names that are told by the model, long enough to show lead and round."""
    stands, back = for_ever(board, stand)
    names = model_called(board, stand, 4 * len(stands) + 4)[0]
    if back is None:
        return tuple(name for name in names if name is not None), ()
    return next(words_of_names(names))


class DoorsWord(unittest.TestCase):
    def test_no_ball(self):
        for leans in ((0, 0), (1, 1)):
            self.assertEqual(doors_word(MIXED, (leans, None)), ((), ()))
        self.assertEqual(doors_word(LEAST, ((), None)), ((), ()))

    def test_one_name(self):
        self.assertEqual(doors_word(LEAST, ((), 0)), ((), (0,)))
        self.assertEqual(doors_word(with_part(LEAST, 4, ((42, None),)), ((), 0)), ((42,), ()))

    def test_a_ball_that_is_stuck_tells_no_name(self):
        self.assertEqual(doors_word(drawn("s"), ((), 0)), ((), ()))
        board = drawn(".a.", "..s", feeders=(1,), doors=((1, 0), (2, 0), (3, 0)))
        self.assertEqual(doors_word(board, ((0,), 0)), ((1,), ()))
        self.assertEqual(doors_word(board, ((1,), 0)), ((), ()))
        board = chain(3, blind=True)
        self.assertEqual(doors_word(board, ((0,) * 3, 0)), ((0,) * 7, ()))

    def test_an_end_behind_some_balls(self):
        board = calling(((5, 1), (5, 2), (6, 3), (5, None)))
        for feeder, names in ((0, (5, 5, 6, 5)), (1, (5, 6, 5)), (2, (6, 5)), (3, (5,))):
            self.assertEqual(doors_word(board, ((), feeder)), (names, ()))

    def test_a_lead_and_a_round(self):
        board = calling(((5, 1), (6, 2), (7, 3), (8, 2)))
        for feeder, word in ((0, ((5, 6), (7, 8))), (1, ((6,), (7, 8))), (2, ((), (7, 8))), (3, ((), (8, 7)))):
            self.assertEqual(doors_word(board, ((), feeder)), word)

    def test_a_round_that_is_a_power(self):
        self.assertEqual(doors_word(calling(((5, 1), (6, 2), (5, 3), (6, 0))), ((), 0)), ((), (5, 6)))
        self.assertEqual(doors_word(calling(((5, 1), (5, 2), (5, 3), (5, 0))), ((), 0)), ((), (5,)))
        self.assertEqual(doors_word(calling(((5, 1), (6, 2), (6, 3), (6, 0))), ((), 0)), ((), (5, 6, 6, 6)))
        for word, again in itertools.product(((1, 2), (1, 1, 2), (3,), (1, 2, 1, 1)), range(1, 5)):
            board, leans = word_board(word * again)
            self.assertEqual(doors_word(board, (leans, 0)), ((), word))

    def test_a_lead_that_ends_as_the_round_does(self):
        # The stands' round is 7 5, behind 7 5 as its lead.
        self.assertEqual(doors_word(calling(((7, 1), (5, 2), (7, 3), (5, 2))), ((), 0)), ((), (7, 5)))
        self.assertEqual(doors_word(calling(((6, 1), (5, 2), (7, 3), (5, 2))), ((), 0)), ((6,), (5, 7)))
        self.assertEqual(doors_word(calling(((9, 1), (5, 2), (5, 3), (5, 3))), ((), 0)), ((9,), (5,)))
        self.assertEqual(doors_word(calling(((5, 1), (9, 2), (5, 3), (5, 3))), ((), 0)), ((5, 9), (5,)))
        self.assertEqual(doors_word(calling(((5, 1), (5, 2), (5, 3), (5, 3))), ((), 0)), ((), (5,)))

    def test_a_lead_that_is_longer_than_the_round(self):
        board = calling(((5, 1), (5, 2), (5, 3), (6, 3)))
        self.assertEqual(doors_word(board, ((), 0)), ((5, 5, 5), (6,)))

    def test_all_words_of_four_doors(self):
        for names in itertools.product((1, 2), repeat=4):
            for last in (None, 0, 1, 2, 3):
                board = calling(((names[0], 1), (names[1], 2), (names[2], 3), (names[3], last)))
                self.assertEqual(doors_word(board, ((), 0)), gone_through(board, ((), 0)))

    def test_counters(self):
        for number in (1, 2, 3, 10, 255, 256):
            board, leans = counter(number)
            self.assertEqual(doors_word(board, (leans, 0)), ((), (0,) * (number - 1) + (1,)))

    def test_a_counter_from_its_other_leans(self):
        board, leans = counter(5)
        behind = called(board, (leans, 0), 3)[1]
        self.assertEqual(doors_word(board, behind), ((), (0, 1, 0, 0, 0)))
        # From where it counts up to the round's leans first.
        self.assertEqual(doors_word(board, ((0, 0, 0), 0)), ((0, 0, 0), (0, 0, 0, 0, 1)))

    def test_the_most_stands(self):
        stand = ((0,) * 8, 0)
        names = called(counting_by_four(), stand, 2000)[0]
        self.assertEqual(len(names), 1024)
        self.assertEqual(doors_word(counting_by_four(), stand), (names, ()))
        self.assertEqual(doors_word(counting_by_four(0), stand), ((), names))
        lead, turn = doors_word(counting_by_four(3), stand)
        self.assertEqual((lead + turn * 2000)[:2000], called(counting_by_four(3), stand, 2000)[0])

    def test_names_for_ever(self):
        kinds = set()
        for board, stand in each_stand():
            word = doors_word(board, stand)
            self.assertIs(type(word), tuple)
            lead, turn = word
            names = called(board, stand, 500)[0]
            if turn:
                self.assertEqual((lead + turn * 500)[:500], names)
            else:
                self.assertEqual(lead, tuple(name for name in names if name is not None))
            kinds.add((bool(lead), bool(turn)))
        self.assertEqual(len(kinds), 4)

    def test_the_shortest_round_and_lead(self):
        drawn_in = 0
        for board, stand in each_stand():
            expected = gone_through(board, stand)
            self.assertEqual(number_kinds(doors_word(board, stand)), number_kinds(expected))
            stands, back = for_ever(board, stand)
            drawn_in += back is not None and (len(expected[0]) < back or len(expected[1]) < len(stands) - back)
        self.assertGreater(drawn_in, 20)


class Holds(unittest.TestCase):
    def test_what_is_told(self):
        for board, stand in each_stand():
            self.assertIs(word_holds(board, stand, for_ever(board, stand), doors_word(board, stand)), True)

    def test_changed_words(self):
        for board, stand in list(each_stand())[:80]:
            paper, word = for_ever(board, stand), doors_word(board, stand)
            for changed in changed_papers(word) + list(kinds_changed(word)):
                self.assertIs(word_holds(board, stand, paper, changed), False, changed)

    def test_changed_papers(self):
        for board, stand in list(each_stand())[:80]:
            paper, word = for_ever(board, stand), doors_word(board, stand)
            if len(paper[0]) < 6:
                for changed in changed_papers(paper) + list(kinds_changed(paper)):
                    self.assertIs(word_holds(board, stand, changed, word), False, changed)

    def test_the_round_gone_through_twice(self):
        for board, stand in each_stand():
            paper, (lead, turn) = for_ever(board, stand), doors_word(board, stand)
            if turn:
                for other in ((lead, turn * 2), (lead, turn * 3), (lead + turn, turn), (lead + turn[:1], turn[1:] + turn[:1])):
                    self.assertIs(word_holds(board, stand, paper, other), other == (lead, turn))
                self.assertIs(word_holds(board, stand, paper, (lead + turn, ())), False)
            else:
                self.assertIs(word_holds(board, stand, paper, ((), lead)), lead == ())

    def test_another_stands_paper(self):
        for feeder in (0, 1):
            paper, word = for_ever(MIXED, ((0, 1), feeder)), doors_word(MIXED, ((0, 1), feeder))
            for other in (((1, 1), 0), ((1, 1), None), ((0, 1), 1 - feeder)):
                self.assertIs(word_holds(MIXED, other, paper, word), False)

    def test_things_of_any_kind(self):
        for board, stand in ((MIXED, ((0, 1), 1)), (LEAST, ((), 0)), (LEAST, ((), None))):
            paper, (lead, turn) = for_ever(board, stand), doors_word(board, stand)
            for thing in others() + [0, 1, (), ((), ()), paper, (lead, turn)]:
                with self.subTest(thing=str(thing)[:60]):
                    self.assertIs(word_holds(board, stand, thing, (lead, turn)), thing == paper)
                    for other in (thing, (thing, turn), (lead, thing), (lead + (thing,), turn), (lead, turn + (thing,))):
                        held = number_kinds(other) == number_kinds((lead, turn))
                        self.assertIs(word_holds(board, stand, paper, other), held)

    def test_the_most_stands(self):
        stand = ((0,) * 8, 0)
        for board in (counting_by_four(), counting_by_four(0), counting_by_four(3)):
            paper, word = for_ever(board, stand), doors_word(board, stand)
            self.assertIs(word_holds(board, stand, paper, word), True)
            self.assertIs(word_holds(board, stand, paper, (word[0] + (0,), word[1])), False)
            self.assertIs(word_holds(board, stand, paper, (word[0], word[1] + (0,))), False)


class Refused(unittest.TestCase):
    def asks(self):
        yield doors_word
        paper, word = for_ever(MIXED, ((0, 1), 0)), doors_word(MIXED, ((0, 1), 0))
        for papers in ((None, None), (paper, word), ([], ()), (paper, None)):
            yield lambda board, stand, papers=papers: word_holds(board, stand, *papers)

    def test_no_board_comes_first(self):
        for ask in self.asks():
            for board in no_boards():
                for stand in (((0, 1), 0), None, []):
                    self.assertIs(refusal(ask, board, stand), NoBoard)

    def test_fault_comes_then(self):
        for ask in self.asks():
            for stand in (((0, 1), 0), None, []):
                self.assertEqual(refusal(ask, FAULTY, stand), (Fault,) + FAULTY_AT)
                self.assertEqual(refusal(ask, with_place(FAULTY, 0, 0, "x"), stand), (Fault, 0, 0))

    def test_no_stand_comes_last(self):
        for ask in self.asks():
            for stand in no_stands():
                with self.subTest(stand=str(stand)[:60]):
                    self.assertIs(refusal(ask, MIXED, stand), NoStand)

    def test_what_is_handed_in_stays(self):
        for thing in others() + [[[0], [1]], ([0], ())]:
            before = copy.deepcopy(thing)
            word_holds(MIXED, ((0, 1), 0), for_ever(MIXED, ((0, 1), 0)), thing)
            word_holds(MIXED, ((0, 1), 0), thing, thing)
            refusal(doors_word, thing, thing)
            refusal(doors_word, MIXED, thing)
            self.assertEqual(thing, before)

    def test_the_same_each_time(self):
        asked = list(each_stand())[:60]
        first = [doors_word(*things) for things in asked]
        self.assertEqual([doors_word(*things) for things in asked[::-1]][::-1], first)


if __name__ == "__main__":
    unittest.main()
