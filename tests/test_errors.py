"""The sixteen refusals, as the interface tells them."""

import unittest

from ballrockers import errors

NAMES = (
    "NoBoard", "Fault", "NoLeans", "NoStand", "NoFeeder", "NoRow", "NoNumber", "NoFit",
    "TooGreat", "NoMachine", "NoWord", "NoFault", "NoNames", "NoText", "NoSaying", "NoName",
)


def refusal(name):
    return getattr(errors, name)


def made(name):
    if name == "Fault":
        return errors.Fault(0, 0)
    return refusal(name)()


class Refusals(unittest.TestCase):
    def test_sixteen(self):
        self.assertEqual(len({refusal(name) for name in NAMES}), 16)

    def test_above_them_stands_board_error(self):
        self.assertTrue(issubclass(errors.BoardError, ValueError))
        for name in NAMES:
            with self.subTest(name):
                self.assertIsInstance(made(name), errors.BoardError)
                self.assertIsInstance(made(name), ValueError)
                self.assertIsNot(refusal(name), errors.BoardError)

    def test_none_stands_under_another(self):
        for name in NAMES:
            for other in NAMES:
                if name != other:
                    with self.subTest(name=name, other=other):
                        self.assertNotIsInstance(made(name), refusal(other))

    def test_each_is_raised_and_taken_by_its_name(self):
        for name in NAMES:
            with self.subTest(name), self.assertRaises(refusal(name)):
                raise made(name)

    def test_each_is_named_as_told(self):
        for name in NAMES:
            self.assertEqual(refusal(name).__name__, name)


class FaultValues(unittest.TestCase):
    def test_row_and_column(self):
        fault = errors.Fault(3, 17)
        self.assertEqual((fault.row, fault.column), (3, 17))

    def test_of_several_each_its_own(self):
        faults = [errors.Fault(row, column) for row in range(4) for column in range(4)]
        told = [(fault.row, fault.column) for fault in faults]
        self.assertEqual(told, [(row, column) for row in range(4) for column in range(4)])

    def test_taken_as_a_board_error_it_keeps_them(self):
        with self.assertRaises(errors.BoardError) as taken:
            raise errors.Fault(59, 39)
        self.assertEqual((taken.exception.row, taken.exception.column), (59, 39))


if __name__ == "__main__":
    unittest.main()
