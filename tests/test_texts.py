"""board_shown, board_read, leans_shown [33], and what they refuse [4], [8]."""

import copy
import itertools
import random
import unittest

from ballrockers.adders import adder
from ballrockers.boards import all_leans
from ballrockers.counters import counter
from ballrockers.errors import Fault, NoBoard, NoText
from ballrockers.texts import board_read, board_shown, leans_read, leans_shown, number_read
from samples import (
    FAULTY, FAULTY_AT, LEAST, MIXED, drawn, no_boards, number_kinds, others, plain_board, refusal, rolled_board,
    with_place,
)

MIXED_TEXT = """\
board 5 2
.a.B.
>xAx<
s<.>s
>bsB<
feeders 1 3
doors 0>0 99>1 7! 7>0 50!
"""


def each_board():
    dice = random.Random(61)
    yield LEAST
    yield MIXED
    yield adder(3)
    yield counter(256)[0]
    for width in (1, 2, 3, 39, 40):
        for rows in (0, 1, 60):
            for groups in (0, 1, 8):
                yield rolled_board(dice, width=width, rows=rows, groups=groups)
    for again in range(150):
        yield rolled_board(dice)


def model_shown(board):
    """[33] word by word."""
    width, groups, rows, feeders, doors = board
    signs = {(group, 0): "abcdefgh"[group] for group in range(8)}
    signs.update({(group, 1): "ABCDEFGH"[group] for group in range(8)})
    text = "board " + str(width) + " " + str(groups) + "\n"
    for places in rows:
        for piece in places:
            text += signs[piece] if piece in signs else piece
        text += "\n"
    text += "feeders"
    for column in feeders:
        text += " " + str(column)
    text += "\ndoors"
    for name, call in doors:
        text += " " + str(name) + ("!" if call is None else ">" + str(call))
    return text + "\n"


class Shown(unittest.TestCase):
    def test_line_by_line(self):
        self.assertEqual(board_shown(MIXED), MIXED_TEXT)

    def test_no_rows(self):
        self.assertEqual(board_shown(LEAST), "board 1 0\nfeeders 0\ndoors 0>0\n")
        self.assertEqual(board_shown(drawn(width=3, groups=8, feeders=(2, 0, 1, 1))),
                         "board 3 8\nfeeders 2 0 1 1\ndoors 0>0 1>0 2>0\n")

    def test_one_column(self):
        self.assertEqual(board_shown(drawn(".", "s", ".", doors=((42, None),))),
                         "board 1 0\n.\ns\n.\nfeeders 0\ndoors 42!\n")

    def test_forty_columns(self):
        board = drawn(">" + "x" * 38 + "<", feeders=(39,))
        doors = " ".join(f"{column}>0" for column in range(40))
        self.assertEqual(board_shown(board), "board 40 0\n>" + "x" * 38 + "<\nfeeders 39\ndoors " + doors + "\n")

    def test_each_rocker(self):
        for side, letters in ((0, "abcdefgh"), (1, "ABCDEFGH")):
            for group, letter in enumerate(letters):
                board = with_place(plain_board(3, 8, 1, 1), 0, 1, (group, side))
                self.assertEqual(board_shown(board), f"board 3 8\n.{letter}.\nfeeders 0\ndoors 0>0 0>0 0>0\n")

    def test_each_other_piece(self):
        for sign in ".<>xs":
            self.assertEqual(board_shown(drawn("." + sign + ".")).split("\n")[1], "." + sign + ".")

    def test_doors(self):
        board = drawn(width=4, feeders=(0, 0, 0, 0), doors=((0, 0), (9, 3), (10, None), (99, 1)))
        self.assertEqual(board_shown(board).split("\n")[-2], "doors 0>0 9>3 10! 99>1")

    def test_each_line_ends_by_a_line_feed(self):
        for board in each_board():
            text = board_shown(board)
            self.assertTrue(text.endswith("\n"))
            self.assertEqual(text.count("\n"), len(board[2]) + 3)

    def test_word_by_word(self):
        for board in each_board():
            self.assertEqual(board_shown(board), model_shown(board))
            self.assertIs(type(board_shown(board)), str)

    def test_refused(self):
        for board in no_boards():
            with self.subTest(board=str(board)[:60]):
                self.assertIs(refusal(board_shown, board), NoBoard)
        self.assertEqual(refusal(board_shown, FAULTY), (Fault,) + FAULTY_AT)
        self.assertEqual(refusal(board_shown, with_place(FAULTY, 0, 4, "x")), (Fault, 0, 4))


class Read(unittest.TestCase):
    def is_none(self, text):
        with self.subTest(text=str(text)[-80:]):
            self.assertIs(refusal(board_read, text), NoText)

    def test_the_board_itself(self):
        for board in each_board():
            self.assertEqual(number_kinds(board_read(model_shown(board))), number_kinds(board))

    def test_a_line_more_or_fewer(self):
        lines = MIXED_TEXT.split("\n")[:-1]
        for at in range(len(lines) + 1):
            for more in ("", " ", "feeders 1 3", "doors 0>0", "board 5 2", "....", "......", "-----"):
                self.is_none("\n".join(lines[:at] + [more] + lines[at:]) + "\n")
        # A row more or fewer is another board; another line isn't.
        for at in (0, 5, 6):
            self.is_none("\n".join(lines[:at] + lines[at + 1:]) + "\n")
        self.assertEqual(len(board_read("\n".join(lines[:2] + lines[3:]) + "\n")[2]), 3)
        for at in (0, 5, 6):
            self.is_none("\n".join(lines[:at] + [lines[at]] + lines[at:]) + "\n")
        for text in ("\n", "\n\n", "\n\n\n", "\n\n\n\n", "board 1 0\n", "board 1 0\nfeeders 0\n", "feeders 0\ndoors 0>0\n"):
            self.is_none(text)

    def test_lines_in_another_order(self):
        lines = board_shown(drawn(".a.", ">..", feeders=(1, 0))).split("\n")[:-1]
        for order in itertools.permutations(range(5)):
            text = "\n".join(lines[at] for at in order) + "\n"
            if order[0] == 0 and order[3:] == (3, 4):
                self.assertIsNone(refusal(board_read, text))
            else:
                self.is_none(text)

    def test_line_feeds_at_the_end(self):
        for text in (MIXED_TEXT, board_shown(LEAST)):
            self.assertIsNone(refusal(board_read, text))
            self.is_none(text[:-1])
            self.is_none(text + "\n")
            self.is_none("\n" + text)
            self.is_none(text[:-1] + " \n")
            self.is_none(text[:-1] + "\r\n")
            self.is_none(text.replace("\n", "\r\n"))
            self.is_none(text.replace("\n", "\r"))
            self.is_none(text + text)

    def test_a_blank_more_or_fewer(self):
        for text in (MIXED_TEXT, board_shown(LEAST), board_shown(drawn(".A.", feeders=(1, 1, 1)))):
            for at in range(len(text) + 1):
                self.is_none(text[:at] + " " + text[at:])
                self.is_none(text[:at] + "\t" + text[at:])
                if text[at:at + 1] == " ":
                    self.is_none(text[:at] + text[at + 1:])
                    self.is_none(text[:at] + "\t" + text[at + 1:])
                    self.is_none(text[:at] + "\n" + text[at + 1:])

    def test_noughts_ahead(self):
        for text in (
            "board 01 0\nfeeders 0\ndoors 0>0\n", "board 1 00\nfeeders 0\ndoors 0>0\n",
            "board 1 0\nfeeders 00\ndoors 0>0\n", "board 1 0\nfeeders 0\ndoors 00>0\n",
            "board 1 0\nfeeders 0\ndoors 0>00\n", "board 1 0\nfeeders 0\ndoors 00!\n",
            "board 1 0\nfeeders 0\ndoors 07>0\n", "board 001 0\nfeeders 0\ndoors 0>0\n",
        ):
            self.is_none(text)

    def test_other_words(self):
        for old, new in (
            ("board", "Board"), ("board", "boards"), ("board", ""), ("board", "feeders"), ("feeders", "feeder"),
            ("feeders", "Feeders"), ("feeders", "doors"), ("doors", "door"), ("doors", "DOORS"), ("doors", "feeders"),
            ("board ", ""), ("feeders ", ""), ("doors ", ""), ("5 2", "5"), ("5 2", "5 2 0"), ("5 2", "2 5"),
            ("5 2", ""), ("5 2", "five two"), ("feeders 1 3", "feeders"), ("feeders 1 3", "feeders "),
            ("doors 0>0", "doors"), ("99>1", "99"), ("99>1", ">1"), ("99>1", "99>"), ("99>1", ">"), ("99>1", "99>1>1"),
            ("99>1", "99>1!"), ("99>1", "99>!"), ("99>1", "99<1"), ("99>1", "99 >1"), ("99>1", "99>None"), ("7!", "7"),
            ("7!", "!"), ("7!", "7!!"), ("7!", "7>"), ("7!", "!7"), ("7!", "7?"), ("7!", "7>None"), ("7!", "77"),
        ):
            self.assertIn(old, MIXED_TEXT)
            self.is_none(MIXED_TEXT.replace(old, new, 1))

    def test_signs_that_are_none(self):
        good = set(".<>xsabcdefghABCDEFGH")
        for code in list(range(32, 127)) + [0, 9, 13, 160, 0xe4, 0x3b1, 0x2d9]:
            sign = chr(code)
            text = f"board 3 8\n.{sign}.\nfeeders 0\ndoors 0>0 0>0 0>0\n"
            if sign in good:
                self.assertEqual(board_shown(board_read(text)), text)
            else:
                self.is_none(text)

    def test_groups_that_are_not_there(self):
        for groups in range(9):
            for group in range(8):
                for letter in ("abcdefgh"[group], "ABCDEFGH"[group]):
                    text = f"board 3 {groups}\n.{letter}.\nfeeders 0\ndoors 0>0 0>0 0>0\n"
                    self.assertIs(refusal(board_read, text), None if group < groups else NoText)

    def test_pieces_that_must_not_stand_there(self):
        for first, last in itertools.product(".<>xsaA", repeat=2):
            text = f"board 3 1\n{first}.{last}\nfeeders 0\ndoors 0>0 0>0 0>0\n"
            held = first in ".>s" and last in ".<s"
            self.assertIs(refusal(board_read, text), None if held else NoText)
        for sign in ".<>xsaA":
            text = f"board 1 1\n{sign}\nfeeders 0\ndoors 0>0\n"
            self.assertIs(refusal(board_read, text), None if sign in ".s" else NoText)

    def test_widths(self):
        for width in (0, 1, 2, 3, 39, 40, 41, 42, 400, 10000):
            real = min(width, 60)
            text = f"board {width} 0\n" + "." * real + "\nfeeders 0\ndoors" + " 0>0" * real + "\n"
            self.assertIs(refusal(board_read, text), None if 1 <= width <= 40 else NoText)
        for width in range(1, 6):
            for places in range(7):
                for doors in range(7):
                    text = f"board {width} 0\n" + "." * places + "\nfeeders 0\ndoors" + " 0>0" * doors + "\n"
                    held = width == places == doors
                    self.assertIs(refusal(board_read, text), None if held else NoText)

    def test_bounds(self):
        for groups in range(12):
            text = f"board 1 {groups}\nfeeders 0\ndoors 0>0\n"
            self.assertIs(refusal(board_read, text), None if groups <= 8 else NoText)
        for rows in (0, 1, 59, 60, 61, 62, 100):
            text = "board 1 0\n" + ".\n" * rows + "feeders 0\ndoors 0>0\n"
            self.assertIs(refusal(board_read, text), None if rows <= 60 else NoText)
        for feeders in range(8):
            text = "board 1 0\nfeeders" + " 0" * feeders + "\ndoors 0!\n"
            self.assertIs(refusal(board_read, text), None if 1 <= feeders <= 4 else NoText)
        for column in (0, 1, 2, 3, 4, 10, 40):
            text = f"board 3 0\nfeeders {column}\ndoors 0! 0! 0!\n"
            self.assertIs(refusal(board_read, text), None if column < 3 else NoText)
        for name in (0, 1, 9, 10, 98, 99, 100, 101, 990, 1000, 10 ** 50):
            for call in (">0", "!"):
                text = f"board 1 0\nfeeders 0\ndoors {name}{call}\n"
                self.assertIs(refusal(board_read, text), None if name < 100 else NoText)

    def test_calls_of_feeders_that_are_not_there(self):
        for feeders in range(1, 5):
            for call in range(7):
                text = "board 1 0\nfeeders" + " 0" * feeders + f"\ndoors 5>{call}\n"
                self.assertIs(refusal(board_read, text), None if call < feeders else NoText)

    def test_digits_that_are_none(self):
        # An Arabic three, a wide three, a raised three, a Roman one, a half, a letter.
        for strange in ("\u0663", "\uff13", "\u00b3", "\u2162", "\u00bd", "b", "O", "l", "3.0", "3e0", "0x3", "3L"):
            for text in (
                f"board {strange} 0\n...\nfeeders 0\ndoors 0! 0! 0!\n", f"board 3 {strange}\n...\nfeeders 0\ndoors 0! 0! 0!\n",
                f"board 3 0\n...\nfeeders {strange}\ndoors 0! 0! 0!\n",
                f"board 3 0\n...\nfeeders 0\ndoors {strange}! 0! 0!\n",
                f"board 3 0\n...\nfeeders 0\ndoors {strange}>0 0! 0!\n",
                f"board 3 0\n...\nfeeders 0 0 0 0\ndoors 0>{strange} 0! 0!\n",
            ):
                self.is_none(text)

    def test_signs_in_numbers(self):
        text = "board 3 1\n...\nfeeders 1 2\ndoors 10>1 11! 12>0\n"
        self.assertIsNone(refusal(board_read, text))
        for at, sign in enumerate(text):
            if sign.isdigit():
                for more in "+-_.,'":
                    self.is_none(text[:at] + more + text[at:])
                    self.is_none(text[:at + 1] + more + text[at + 1:])

    def test_the_empty_text_and_other_texts(self):
        for text in ("", " ", "board", "board 1 0", "feeders", "doors", "-", "0", "\n" * 3000, " " * 3000, "a" * 3000):
            self.is_none(text)
        self.is_none("board " + "1" * 2900 + " 0\nfeeders 0\ndoors 0>0\n")
        self.is_none("board 1 0\nfeeders 0\ndoors " + "9" * 2900 + ">0\n")

    def test_things_of_any_kind(self):
        for thing in others() + [0, 1, (), MIXED, LEAST, (MIXED_TEXT,), [MIXED_TEXT], {MIXED_TEXT: MIXED_TEXT}]:
            self.is_none(thing)
        self.is_none(MIXED_TEXT.encode())

    def test_each_sign_out_or_another(self):
        # What is read is shown by that very text, whatever it is.
        for text in (MIXED_TEXT, board_shown(LEAST)):
            for at in range(len(text)):
                for other in ("", "0", "1", ".", ">", "!", "x", "a", "A", "\n", " "):
                    changed = text[:at] + other + text[at + 1:]
                    if refusal(board_read, changed) is None:
                        self.assertEqual(model_shown(board_read(changed)), changed)
                    else:
                        self.is_none(changed)


class Leans(unittest.TestCase):
    def test_digits(self):
        self.assertEqual(leans_shown(()), "-")
        self.assertEqual(leans_shown((0,)), "0")
        self.assertEqual(leans_shown((1,)), "1")
        self.assertEqual(leans_shown((0, 1, 1)), "011")
        self.assertEqual(leans_shown((1, 0, 0, 0, 0, 1, 1, 0)), "10000110")

    def test_all_leans(self):
        for groups in range(1, 9):
            for number, leans in enumerate(all_leans(groups)):
                self.assertEqual(leans_shown(leans), bin(number)[2:].zfill(groups))

    def test_read(self):
        for groups in range(9):
            for leans in all_leans(groups):
                self.assertEqual(number_kinds(leans_read(leans_shown(leans))), number_kinds(leans))
        for text in ("", " ", "--", "-0", "0-", "2", "02", "0 1", " 0", "0 ", "a", "0" * 9, "1" * 40, "\u0661", "01\n"):
            self.assertIsNone(leans_read(text))


class Numbers(unittest.TestCase):
    def test_numbers(self):
        for number in list(range(0, 1200)) + [9998, 9999]:
            self.assertEqual(number_kinds(number_read(str(number))), number_kinds(number))

    def test_no_numbers(self):
        for text in ("", " ", "-", "00", "01", "0000", "0123", "10000", "99999", "-1", "+1", "1_0", "1 ", " 1", "1.", "x",
                     "\u0663", "\u00b3", "1\n", "1" * 5000):
            self.assertIsNone(number_read(text))


class Unchanged(unittest.TestCase):
    def test_what_is_handed_in_stays(self):
        for thing in others() + [list(MIXED), [list(part) if isinstance(part, tuple) else part for part in MIXED]]:
            before = copy.deepcopy(thing)
            refusal(board_shown, thing)
            refusal(board_read, thing)
            self.assertEqual(thing, before)

    def test_the_same_each_time(self):
        boards = list(each_board())
        first = [board_shown(board) for board in boards]
        self.assertEqual([board_shown(board) for board in boards[::-1]][::-1], first)
        for again in range(2):
            self.assertEqual([board_read(text) for text in first], boards)


if __name__ == "__main__":
    unittest.main()
