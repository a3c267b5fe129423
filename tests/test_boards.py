"""look_at_board: what is a board [5], [6], and what is refused, by NoBoard or by Fault [4]."""

import contextlib
import copy
import unittest

from ballrockers.boards import look_at_board
from ballrockers.errors import BoardError, Fault, NoBoard
from samples import DOOR, LEAST, MIXED, deep, others, plain_board, with_part, with_place

WIDTH, GROUPS, ROWS, FEEDERS, DOORS = range(5)


class BoardTest(unittest.TestCase):
    def is_board(self, board):
        self.assertIsNone(look_at_board(board))

    def is_no_board(self, thing):
        with self.assertRaises(NoBoard):
            look_at_board(thing)

    def has_fault(self, board, row, column):
        with self.assertRaises(Fault) as taken:
            look_at_board(board)
        self.assertEqual((taken.exception.row, taken.exception.column), (row, column))


class Boards(BoardTest):
    def test_all_kinds_of_pieces(self):
        self.is_board(MIXED)

    def test_least_board(self):
        self.is_board(LEAST)

    def test_columns(self):
        for width in range(1, 41):
            self.is_board(plain_board(width=width))

    def test_rows(self):
        for rows in (0, 1, 59, 60):
            self.is_board(plain_board(rows=rows))

    def test_groups(self):
        for groups in range(9):
            self.is_board(plain_board(groups=groups))

    def test_feeders(self):
        for feeders in range(1, 5):
            self.is_board(plain_board(feeders=feeders))

    def test_feeders_above_each_column(self):
        for column in range(3):
            self.is_board(with_part(plain_board(), FEEDERS, (column,)))
        self.is_board(with_part(plain_board(), FEEDERS, (2, 0, 2, 1)))

    def test_greatest_board(self):
        board = plain_board(40, 8, 60, 4)
        for row in range(60):
            for column in range(1, 39):
                board = with_place(board, row, column, ((row + column) % 8, row % 2))
        self.is_board(board)

    def test_doors(self):
        for name in (0, 1, 98, 99):
            for call in (None, 0, 1, 2, 3):
                doors = (DOOR, (name, call), DOOR)
                self.is_board(with_part(plain_board(feeders=4), DOORS, doors))

    def test_calls_of_the_last_feeder(self):
        for feeders in range(1, 5):
            self.is_board(with_part(plain_board(feeders=feeders), DOORS, ((0, feeders - 1),) * 3))

    def test_rockers_of_each_group_and_side(self):
        for group in range(8):
            for side in (0, 1):
                self.is_board(with_place(plain_board(groups=8), 0, 1, (group, side)))

    def test_pieces_at_the_sides(self):
        board = plain_board(width=4)
        for piece, columns in (
            (".", (0, 1, 2, 3)),
            ("s", (0, 1, 2, 3)),
            ("<", (1, 2, 3)),
            (">", (0, 1, 2)),
            ("x", (1, 2)),
            ((0, 0), (1, 2)),
            ((1, 1), (1, 2)),
        ):
            for column in columns:
                with self.subTest(piece=piece, column=column):
                    self.is_board(with_place(board, 1, column, piece))

    def test_one_and_two_columns(self):
        for piece in (".", "s"):
            self.is_board(with_place(plain_board(width=1), 0, 0, piece))
        self.is_board(with_place(plain_board(width=2), 0, 0, ">"))
        self.is_board(with_place(plain_board(width=2), 0, 1, "<"))


class NoBoards(BoardTest):
    def test_another_kind_for_the_whole(self):
        for thing in others() + [(), 0, 1, list(MIXED), list(LEAST), dict(enumerate(MIXED))]:
            with self.subTest(thing=str(thing)[:60]):
                self.is_no_board(thing)

    def test_too_few_and_too_many_parts(self):
        self.is_no_board(MIXED[:4])
        self.is_no_board(MIXED + (0,))
        self.is_no_board(MIXED + MIXED)

    def test_another_kind_for_a_part(self):
        for board in (MIXED, LEAST):
            for part in range(5):
                for thing in others():
                    with self.subTest(board=board[0], part=part, thing=str(thing)[:60]):
                        self.is_no_board(with_part(board, part, thing))

    def test_truths_for_numbers(self):
        self.is_no_board(with_part(plain_board(width=1), WIDTH, True))
        self.is_no_board(with_part(plain_board(groups=0), GROUPS, False))
        self.is_no_board(with_part(plain_board(groups=1), GROUPS, True))
        self.is_no_board(with_part(plain_board(), FEEDERS, (False,)))
        self.is_no_board(with_part(plain_board(), FEEDERS, (0, True)))

    def test_lists_for_tuples(self):
        for part in (ROWS, FEEDERS, DOORS):
            self.is_no_board(with_part(MIXED, part, list(MIXED[part])))
        self.is_no_board(with_part(LEAST, ROWS, []))

    def test_width(self):
        self.is_no_board((0, 0, (), (0,), ()))
        self.is_no_board((-1, 0, (), (0,), ()))
        for width in (0, 41, 42, 10 ** 4):
            self.is_no_board(plain_board(width=width, rows=0))
        self.is_no_board(plain_board(width=41))
        for width in (4, 6):
            self.is_no_board(with_part(MIXED, WIDTH, width))

    def test_groups(self):
        for groups in (-1, 9, 10, 10 ** 59):
            self.is_no_board(plain_board(groups=groups))

    def test_rows(self):
        for rows in (61, 62, 400):
            self.is_no_board(plain_board(rows=rows))

    def test_another_kind_for_a_row(self):
        for row in range(4):
            for thing in others() + [(), "." * 5, ["."] * 5, {0: ".", 1: ".", 2: ".", 3: ".", 4: "."}]:
                if thing == (None,) * 5:
                    continue
                with self.subTest(row=row, thing=str(thing)[:60]):
                    rows = MIXED[2][:row] + (thing,) + MIXED[2][row + 1:]
                    self.is_no_board(with_part(MIXED, ROWS, rows))

    def test_row_too_short_or_too_long(self):
        for rows in (
            ((".",) * 2, (".",) * 3),
            ((".",) * 4, (".",) * 3),
            ((".",) * 3, (".",) * 2),
            ((".",) * 3, (".",) * 4),
            ((".",) * 3, ()),
        ):
            self.is_no_board(with_part(plain_board(), ROWS, rows))

    def test_feeders(self):
        for feeders in (0, 5, 6, 500):
            board = with_part(plain_board(feeders=feeders), DOORS, ((0, None),) * 3)
            self.is_no_board(board)

    def test_another_thing_for_a_feeder(self):
        for thing in others() + [(), (0,), 3, 4]:
            for feeders in ((thing,), (thing, 0), (0, thing), (0, 1, 2, thing)):
                with self.subTest(feeders=str(feeders)[:60]):
                    self.is_no_board(with_part(plain_board(feeders=1), FEEDERS, feeders))

    def test_feeder_beyond_the_last_column(self):
        for width in (1, 2, 40):
            self.is_no_board(with_part(plain_board(width=width), FEEDERS, (width,)))

    def test_too_few_and_too_many_doors(self):
        for many in (0, 1, 2, 4, 5, 40):
            self.is_no_board(with_part(plain_board(), DOORS, (DOOR,) * many))

    def test_another_kind_for_a_door(self):
        for thing in others() + [(), 0, (0,), (0, 0, 0), [0, 0], "00", (0, (0,)), ((0,), 0)]:
            for doors in ((thing, DOOR, DOOR), (DOOR, DOOR, thing)):
                with self.subTest(door=str(thing)[:60]):
                    self.is_no_board(with_part(plain_board(), DOORS, doors))

    def test_another_thing_for_a_name(self):
        for thing in others() + [(), 100, 101]:
            for call in (None, 0):
                with self.subTest(name=str(thing)[:60]):
                    self.is_no_board(with_part(plain_board(), DOORS, (DOOR, DOOR, (thing, call))))

    def test_another_thing_for_a_call(self):
        for thing in others() + [(), 2, 3, 4]:
            if thing is not None:
                with self.subTest(call=str(thing)[:60]):
                    self.is_no_board(with_part(plain_board(), DOORS, (DOOR, DOOR, (5, thing))))

    def test_call_beyond_the_last_feeder(self):
        for feeders in range(1, 5):
            doors = (DOOR, DOOR, (0, feeders))
            self.is_no_board(with_part(plain_board(feeders=feeders), DOORS, doors))


class Faults(BoardTest):
    def test_first_column(self):
        for width in (2, 3, 40):
            for piece in ("<", "x", (0, 0), (0, 1), (1, 0)):
                with self.subTest(width=width, piece=piece):
                    self.has_fault(with_place(plain_board(width=width), 1, 0, piece), 1, 0)

    def test_last_column(self):
        for width in (2, 3, 40):
            for piece in (">", "x", (0, 0), (0, 1), (1, 0)):
                with self.subTest(width=width, piece=piece):
                    self.has_fault(with_place(plain_board(width=width), 1, width - 1, piece), 1, width - 1)

    def test_one_column_is_first_and_last(self):
        for piece in ("<", ">", "x", (0, 0), (1, 1)):
            self.has_fault(with_place(plain_board(width=1), 0, 0, piece), 0, 0)

    def test_rocker_of_no_group(self):
        for groups in range(9):
            for group in (-1, groups, groups + 1, 10 ** 59):
                self.has_fault(with_place(plain_board(groups=groups), 0, 1, (group, 0)), 0, 1)

    def test_rocker_of_no_side(self):
        for side in (-1, 2, 3, 10 ** 59, None, "0", "<", (), (0,), [0]):
            self.has_fault(with_place(plain_board(), 0, 1, (0, side)), 0, 1)

    def test_truths_for_numbers(self):
        for rocker in ((True, 0), (False, 0), (0, True), (0, False), (True, True), (False, False)):
            self.has_fault(with_place(plain_board(), 0, 1, rocker), 0, 1)

    def test_anything_else_in_a_place(self):
        things = others() + [
            (), 0, 1, (0,), (0, 0, 0), [0, 0], [0, 1], ["."], (".",), {0: 0}, ("0", 0), (None, 0), ((0, 0), 0),
            "X", "S", "..", "<>", " ", ".\n", "a", "A", "xs", "<.", "v", "^",
        ]
        for thing in things:
            if thing == ".":
                continue
            for column in range(3):
                with self.subTest(thing=str(thing)[:60], column=column):
                    self.has_fault(with_place(plain_board(), 1, column, thing), 1, column)

    def test_deep_and_great_things(self):
        for thing in (deep(20), [0] * 9000, {at: at for at in range(9000)}):
            self.has_fault(with_place(plain_board(), 0, 2, thing), 0, 2)

    def test_each_place(self):
        for row in range(4):
            for column in range(5):
                self.has_fault(with_place(MIXED, row, column, "?"), row, column)

    def test_last_place_of_the_greatest_board(self):
        self.has_fault(with_place(plain_board(40, 8, 60, 4), 59, 39, ">"), 59, 39)

    def test_first_by_row_then_by_column(self):
        board = with_place(MIXED, 2, 0, None)
        self.has_fault(board, 2, 0)
        board = with_place(board, 1, 4, ">")
        self.has_fault(board, 1, 4)
        board = with_place(board, 1, 3, (2, 0))
        self.has_fault(board, 1, 3)
        board = with_place(board, 3, 0, "<")
        self.has_fault(board, 1, 3)


class Ahead(BoardTest):
    """NoBoard comes ahead of Fault."""

    def setUp(self):
        self.faulty = with_place(MIXED, 0, 0, "<")
        self.has_fault(self.faulty, 0, 0)

    def test_each_part(self):
        for part, thing in (
            (WIDTH, 41), (WIDTH, True), (GROUPS, 9), (GROUPS, None), (FEEDERS, ()), (FEEDERS, (5,)),
            (DOORS, (DOOR,) * 4), (DOORS, (DOOR,) * 4 + ((100, 0),)), (DOORS, (DOOR,) * 4 + ((0, 2),)),
        ):
            with self.subTest(part=part, thing=thing):
                self.is_no_board(with_part(self.faulty, part, thing))

    def test_rows_behind_the_fault(self):
        for row in ((), ((".",) * 4), ((".",) * 6), (["."] * 5), ".....", None):
            self.is_no_board(with_part(self.faulty, ROWS, self.faulty[2] + (row,)))
        self.is_no_board(with_part(self.faulty, ROWS, self.faulty[2] * 16))

    def test_too_many_parts(self):
        self.is_no_board(self.faulty + (0,))


class Unchanged(BoardTest):
    def test_what_is_handed_in_stays(self):
        things = others() + [with_place(plain_board(), 0, 1, thing) for thing in others()]
        things += [list(MIXED), with_part(MIXED, DOORS, [[0, 0]] * 5), with_part(MIXED, ROWS, [["."] * 5])]
        for thing in things:
            before = copy.deepcopy(thing)
            # Whether it's refused is held elsewhere.
            with contextlib.suppress(BoardError):
                look_at_board(thing)
            self.assertEqual(thing, before)

    def test_the_same_each_time(self):
        for again in range(3):
            self.is_board(MIXED)
            self.has_fault(with_place(MIXED, 3, 1, [0, 0]), 3, 1)
            self.is_no_board(with_part(MIXED, ROWS, None))


if __name__ == "__main__":
    unittest.main()
