"""Leans and stands [7]: is_leans, is_stand, all_leans, and what they refuse [4], [8]."""

import copy
import itertools
import unittest

from ballrockers.boards import all_leans, is_leans, is_stand
from ballrockers.errors import Fault, NoBoard, NoNumber
from samples import FAULTY, LEAST, MIXED, others, plain_board, with_part


class Leans(unittest.TestCase):
    def test_all_of_all_boards(self):
        for groups in range(9):
            board = plain_board(groups=groups, rows=0)
            for leans in itertools.product((0, 1), repeat=groups):
                self.assertIs(is_leans(board, leans), True)

    def test_as_many_as_groups(self):
        for groups in range(9):
            for many in range(11):
                self.assertIs(is_leans(plain_board(groups=groups), (0,) * many), many == groups)
                self.assertIs(is_leans(plain_board(groups=groups), (1,) * many), many == groups)

    def test_no_leans(self):
        for thing in others() + [0, 1, (), (0,), (0, 0, 0), (0, 2), (2, 0), (-1, 0), (0, -1), (0, None), (0, "1")]:
            with self.subTest(thing=str(thing)[:60]):
                self.assertIs(is_leans(MIXED, thing), False)

    def test_a_truth_is_no_number(self):
        for thing in ((True, 0), (0, True), (False, 0), (0, False), (True, False)):
            self.assertIs(is_leans(MIXED, thing), False)

    def test_a_list_is_no_tuple(self):
        self.assertIs(is_leans(MIXED, [0, 1]), False)
        self.assertIs(is_leans(LEAST, []), False)

    def test_no_leans_of_no_group(self):
        for thing in others() + [0, (0,), (1,)]:
            self.assertIs(is_leans(LEAST, thing), False)

    def test_a_stand_is_no_leans(self):
        self.assertIs(is_leans(MIXED, ((0, 1), 0)), False)


class Stands(unittest.TestCase):
    def test_each_feeder_and_none(self):
        for feeders in range(1, 5):
            board = plain_board(feeders=feeders)
            self.assertIs(is_stand(board, ((0, 1), None)), True)
            for feeder in range(-1, 6):
                self.assertIs(is_stand(board, ((0, 1), feeder)), 0 <= feeder < feeders)

    def test_all_leans_of_a_board(self):
        for leans in itertools.product((0, 1), repeat=2):
            for feeder in (None, 0, 1):
                self.assertIs(is_stand(MIXED, (leans, feeder)), True)
        self.assertIs(is_stand(LEAST, ((), None)), True)
        self.assertIs(is_stand(LEAST, ((), 0)), True)

    def test_no_stand(self):
        for thing in others() + [0, (), (0, 1), ((0, 1),), ((0, 1), 0, 0), [(0, 1), 0], (0, (0, 1)), {(0, 1): 0}]:
            with self.subTest(thing=str(thing)[:60]):
                self.assertIs(is_stand(MIXED, thing), False)

    def test_no_leans_in_it(self):
        for thing in others() + [(), (0,), (0, 0, 0), (0, 2), (-1, 0), (True, 0), (0, False), [0, 1], "01"]:
            for feeder in (None, 0):
                with self.subTest(leans=str(thing)[:60]):
                    self.assertIs(is_stand(MIXED, (thing, feeder)), False)

    def test_no_feeder_in_it(self):
        for thing in others() + [(), (0,), 2, 3]:
            if thing is not None:
                with self.subTest(feeder=str(thing)[:60]):
                    self.assertIs(is_stand(MIXED, ((0, 1), thing)), False)

    def test_a_truth_is_no_feeder(self):
        for truth in (True, False):
            self.assertIs(is_stand(MIXED, ((0, 1), truth)), False)

    def test_a_list_is_no_tuple(self):
        self.assertIs(is_stand(MIXED, [(0, 1), 0]), False)
        self.assertIs(is_stand(MIXED, ([0, 1], 0)), False)
        self.assertIs(is_stand(LEAST, ([], None)), False)


class Refused(unittest.TestCase):
    """NoBoard and Fault come ahead of what the thing is."""

    things = ((0, 1), (), [0, 1], None, ((0, 1), 0), ((0, 1), None), "01")

    def test_no_board(self):
        for ask in (is_leans, is_stand):
            for board in others() + [list(MIXED), with_part(MIXED, 0, True), with_part(FAULTY, 4, ())]:
                for thing in self.things:
                    with self.subTest(board=str(board)[:60]), self.assertRaises(NoBoard):
                        ask(board, thing)

    def test_fault(self):
        for ask in (is_leans, is_stand):
            for thing in self.things:
                with self.assertRaises(Fault) as taken:
                    ask(FAULTY, thing)
                self.assertEqual((taken.exception.row, taken.exception.column), (1, 2))


class AllLeans(unittest.TestCase):
    def test_all_rising(self):
        for groups in range(9):
            self.assertEqual(all_leans(groups), sorted(itertools.product((0, 1), repeat=groups)))

    def test_written_out(self):
        self.assertEqual(all_leans(0), [()])
        self.assertEqual(all_leans(1), [(0,), (1,)])
        self.assertEqual(all_leans(2), [(0, 0), (0, 1), (1, 0), (1, 1)])

    def test_a_list_of_tuples_of_numbers(self):
        for groups in range(9):
            told = all_leans(groups)
            self.assertIs(type(told), list)
            for leans in told:
                self.assertIs(type(leans), tuple)
                self.assertTrue(all(type(lean) is int for lean in leans))

    def test_built_anew_each_time(self):
        for groups in range(9):
            first = all_leans(groups)
            kept = list(first)
            second = all_leans(groups)
            self.assertIsNot(first, second)
            first.clear()
            self.assertEqual(second, kept)
            self.assertEqual(all_leans(groups), kept)

    def test_no_number(self):
        for thing in others() + [9, 10, (), (3,), "3"]:
            with self.subTest(thing=str(thing)[:60]), self.assertRaises(NoNumber):
                all_leans(thing)


class Unchanged(unittest.TestCase):
    def test_what_is_handed_in_stays(self):
        for thing in others() + [[[0, 1], 0], ([0, 1], 0), ([0, 1], [0])]:
            before = copy.deepcopy(thing)
            is_leans(MIXED, thing)
            is_stand(MIXED, thing)
            with self.assertRaises(NoNumber):
                all_leans(thing)
            for ask in (is_leans, is_stand):
                with self.assertRaises(NoBoard):
                    ask(thing, thing)
            self.assertEqual(thing, before)

    def test_the_same_each_time(self):
        for again in range(3):
            self.assertIs(is_leans(MIXED, (1, 0)), True)
            self.assertIs(is_leans(MIXED, (1, 2)), False)
            self.assertIs(is_stand(MIXED, ((1, 0), 1)), True)
            self.assertIs(is_stand(MIXED, ((1, 0), 2)), False)
            self.assertEqual(all_leans(3), sorted(itertools.product((0, 1), repeat=3)))


if __name__ == "__main__":
    unittest.main()
