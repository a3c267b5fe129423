"""least_groups [18], and what it refuses [4]."""

import copy
import unittest

from ballrockers.errors import NoNumber
from ballrockers.groups import least_groups
from samples import no_numbers, number_kinds, others, refusal

MOST = 10 ** 9


class LeastGroups(unittest.TestCase):
    def test_written_out(self):
        for stands, feeders, groups in (
            (1, 1, 0), (2, 1, 1), (3, 1, 2), (4, 1, 2), (5, 1, 3), (8, 1, 3), (9, 1, 4), (16, 1, 4), (256, 1, 8),
            (257, 1, 9), (1, 2, 0), (2, 2, 0), (3, 2, 1), (4, 2, 1), (5, 2, 2), (1, 3, 0), (3, 3, 0), (4, 3, 1),
            (6, 3, 1), (7, 3, 2), (1, 4, 0), (4, 4, 0), (5, 4, 1), (1024, 4, 8), (1025, 4, 9),
            (MOST, 1, 30), (MOST, 2, 29), (MOST, 3, 29), (MOST, 4, 28),
        ):
            with self.subTest(stands=stands, feeders=feeders):
                self.assertEqual(least_groups(stands, feeders), groups)

    def test_around_feeders_times_a_power_of_two(self):
        for feeders in range(1, 5):
            for power in range(30):
                stands = feeders * 2 ** power
                if stands > MOST:
                    continue
                self.assertEqual(least_groups(stands, feeders), power)
                if stands + 1 <= MOST:
                    self.assertEqual(least_groups(stands + 1, feeders), power + 1)
                if stands > feeders:
                    self.assertEqual(least_groups(stands - 1, feeders), power if stands - 1 > stands // 2 else power - 1)

    def test_no_fewer_do(self):
        numbers = list(range(1, 1100)) + [10 ** power + more for power in range(4, 10) for more in (-1, 0)]
        for feeders in range(1, 5):
            for stands in numbers:
                groups = least_groups(stands, feeders)
                self.assertGreaterEqual(groups, 0)
                self.assertGreaterEqual(2 ** groups * feeders, stands)
                if groups:
                    self.assertLess(2 ** (groups - 1) * feeders, stands)

    def test_fewer_stands_than_feeders(self):
        for feeders in range(1, 5):
            for stands in range(1, feeders + 1):
                self.assertEqual(least_groups(stands, feeders), 0)

    def test_a_number_and_no_truth(self):
        for stands in (1, 2, 3, 4):
            for feeders in (1, 2):
                self.assertIs(type(least_groups(stands, feeders)), int)
        self.assertEqual(number_kinds(least_groups(1, 1)), (int, 0))
        self.assertEqual(number_kinds(least_groups(2, 1)), (int, 1))


class Refused(unittest.TestCase):
    def test_no_stands(self):
        for stands in no_numbers(1, MOST) + [0, MOST + 1, 2 ** 31, 2 ** 64, 10 ** 50]:
            for feeders in (1, 4):
                with self.subTest(stands=str(stands)[:60]):
                    self.assertIs(refusal(least_groups, stands, feeders), NoNumber)

    def test_no_feeders(self):
        for feeders in no_numbers(1, 4) + [0, 5, 2 ** 64]:
            for stands in (1, 256, MOST):
                with self.subTest(feeders=str(feeders)[:60]):
                    self.assertIs(refusal(least_groups, stands, feeders), NoNumber)

    def test_both(self):
        for stands in no_numbers(1, MOST):
            for feeders in (0, 5, True, None, "1", [1], (1,), {}, 10 ** 59, stands):
                self.assertIs(refusal(least_groups, stands, feeders), NoNumber)

    def test_just_at_the_bounds(self):
        for stands, refused in ((-1, NoNumber), (0, NoNumber), (1, None), (2, None), (MOST - 1, None), (MOST, None),
                                (MOST + 1, NoNumber), (MOST + 2, NoNumber)):
            for feeders in range(1, 5):
                self.assertIs(refusal(least_groups, stands, feeders), refused)
        for feeders, refused in ((-1, NoNumber), (0, NoNumber), (1, None), (4, None), (5, NoNumber), (6, NoNumber)):
            for stands in (1, 7, MOST):
                self.assertIs(refusal(least_groups, stands, feeders), refused)

    def test_truths(self):
        for stands, feeders in ((True, 1), (1, True), (True, True), (False, 1), (1, False)):
            self.assertIs(refusal(least_groups, stands, feeders), NoNumber)


class Unchanged(unittest.TestCase):
    def test_what_is_handed_in_stays(self):
        for thing in others():
            before = copy.deepcopy(thing)
            refusal(least_groups, thing, thing)
            refusal(least_groups, thing, 1)
            refusal(least_groups, 1, thing)
            self.assertEqual(thing, before)

    def test_the_same_each_time(self):
        first = [least_groups(stands, feeders) for stands in range(1, 40) for feeders in range(1, 5)]
        for again in range(3):
            self.assertEqual(least_groups(MOST, 3), 29)
            self.assertEqual(
                [least_groups(stands, feeders) for stands in range(1, 40) for feeders in range(1, 5)], first)


if __name__ == "__main__":
    unittest.main()
