"""Numbers and tuples of numbers: True and False are none."""

import unittest

from ballrockers.whole import are_wholes_within, is_from, is_just, is_tuple_within, is_whole, is_whole_within


class Wholes(unittest.TestCase):
    def test_numbers(self):
        for number in (0, 1, -1, 10 ** 59, -(10 ** 59)):
            self.assertIs(is_whole(number), True)

    def test_no_numbers(self):
        for thing in (True, False, None, "", "1", (), (1,), [], [1], {}, {1: 1}):
            self.assertIs(is_whole(thing), False)

    def test_bounds(self):
        told = [is_whole_within(number, 2, 4) for number in range(7)]
        self.assertEqual(told, [False, False, True, True, True, False, False])
        self.assertIs(is_whole_within(True, 0, 1), False)
        self.assertIs(is_whole_within("3", 2, 4), False)

    def test_from(self):
        self.assertEqual([is_from(number, 0) for number in (-1, 0, 1, 10 ** 59)], [False, True, True, True])
        for thing in (True, False, None, "0", (0,), [0], {}):
            self.assertIs(is_from(thing, 0), False)


class Tuples(unittest.TestCase):
    def test_lengths(self):
        told = [is_tuple_within((0,) * many, 1, 2) for many in range(4)]
        self.assertEqual(told, [False, True, True, False])
        for thing in ([0], "0", {0: 0}, None, 1, True):
            self.assertIs(is_tuple_within(thing, 1, 2), False)

    def test_of_numbers(self):
        self.assertIs(are_wholes_within((), 0, 2, 0, 1), True)
        self.assertIs(are_wholes_within((0, 1), 0, 2, 0, 1), True)
        for thing in ((0, 2), (-1, 0), (0, True), (0, None), (0, 0, 0), [0, 1], "01", None):
            self.assertIs(are_wholes_within(thing, 0, 2, 0, 1), False)


class Just(unittest.TestCase):
    def test_the_same(self):
        for told in (0, 1, 10 ** 59, None, "", "alike", (), (0,), (1, (0, None)), ((), ((),)), ("safe", ((0, 1), 2))):
            self.assertIs(is_just(told, told), True)

    def test_another(self):
        for thing, told in (
            (1, 0), (-1, 1), ("1", 1), ((1,), 1), ([1], 1), (None, 0), (0, None), ("", None), ((), None), (None, ()),
            ("alike", "parted"), (("alike",), "alike"), (0, ""), ((1, 2), (1,)), ((1,), (1, 2)), ((2, 1), (1, 2)),
            ((), ((),)), (((),), ()), (((1, 2), 3), ((1, 3), 3)), ({}, ()), ("", ()), ("ab", ("a", "b")),
        ):
            self.assertIs(is_just(thing, told), False, (thing, told))

    def test_kinds(self):
        for thing, told in (
            (True, 1), (False, 0), ((True,), (1,)), ((0, False), (0, 0)), (((1, True),), ((1, 1),)), ([], ()),
            ([1], (1,)), (([1],), ((1,),)), ((1, []), (1, ())), (False, None), (True, "alike"),
        ):
            self.assertIs(is_just(thing, told), False, (thing, told))


if __name__ == "__main__":
    unittest.main()
