"""Desk and say [34], and what it refuses [3], [4]."""

import itertools
import random
import unittest

from ballrockers.adders import adder
from ballrockers.boards import all_leans
from ballrockers.counters import counter
from ballrockers.desk import Desk
from ballrockers.errors import BoardError, NoFeeder, NoFit, NoLeans, NoName, NoNumber, NoSaying, NoWord, TooGreat
from ballrockers.ever import for_ever
from ballrockers.joined import below
from ballrockers.likeness import alike
from ballrockers.machines import word_board
from ballrockers.mirrors import mirrored
from ballrockers.runs import called, told
from ballrockers.texts import board_read, board_shown, leans_shown
from samples import MIXED, chain, counting_by_four, drawn, refusal, with_part

# The first ball is stuck, the second comes out by 7, and so on.
BLIND = drawn(".a.", "s..", feeders=(1, 0), doors=((5, 1), (6, None), (7, 1)))
# Its rocker leads to a door that calls feeder 1, or to one that calls none.
CALLING = drawn(".a...", feeders=(1, 4), doors=((10, 1), (11, 0), (12, None), (13, 0), (14, 0)))


def desk_with(**boards):
    """A desk that keeps boards by names, each with its leans and feeder."""
    desk = Desk()
    desk.kept.update(boards)
    return desk


def desk_after(*rows):
    """A desk to which the rows were said."""
    desk = Desk()
    for row in rows:
        desk.say(row)
    return desk


def board_of(desk, name):
    """The board that is kept by the name, by what is shown of it."""
    return board_read(desk.say("show " + name))


def leans_of(desk, name):
    """The leans that are kept by the name, by what is shown of them."""
    text = desk.say("leans " + name)
    return () if text == "-" else tuple(int(sign) for sign in text)


def seen(desk):
    """All that can be seen of a desk without a change."""
    names = desk.say("names")
    found = [names]
    for name in names.split(" ") if names != "-" else ():
        found += [desk.say(word + " " + name) for word in ("show", "leans", "round")]
    return found


class Made(unittest.TestCase):
    def test_counter(self):
        for number in (1, 2, 3, 7, 100, 256):
            desk = Desk()
            self.assertEqual(desk.say(f"counter a {number}"), "ok")
            board, leans = counter(number)
            self.assertEqual(desk.say("show a"), board_shown(board))
            self.assertEqual(desk.say("leans a"), leans_shown(leans))
            names = called(board, (leans, 0), 300)[0]
            self.assertEqual(desk.say("run a 300"), " ".join(str(name) for name in names))
            self.assertEqual(names, tuple(int(ball % number == number - 1) for ball in range(300)))

    def test_adder(self):
        for size in (1, 2, 3):
            desk = desk_after(f"adder sum {size}")
            self.assertEqual(desk.say("show sum"), board_shown(adder(size)))
            self.assertEqual(desk.say("leans sum"), "00" * size)
            self.assertEqual(desk.say("run sum 5"), "2")
            self.assertEqual(Desk().say(f"adder sum {size}"), "ok")

    def test_an_adder_adds(self):
        desk = desk_after("adder sum 2")
        self.assertEqual(desk.say("lean sum 1101"), "ok")
        self.assertEqual(desk.say("run sum 2000"), "0 1 0 2")
        self.assertEqual(desk.say("leans sum"), "0010")
        self.assertEqual(desk.say("run sum 1"), "-")

    def test_word(self):
        for word in ((0,), (99,), (3, 1, 4, 1, 5), tuple(range(16)), (7,) * 16):
            desk = Desk()
            self.assertEqual(desk.say("word w " + " ".join(str(name) for name in word)), "ok")
            board, leans = word_board(word)
            self.assertEqual(desk.say("show w"), board_shown(board))
            self.assertEqual(desk.say("leans w"), leans_shown(leans))
            self.assertEqual(desk.say("run w 40"), " ".join(str(name) for name in (word * 40)[:40]))

    def test_mirror(self):
        desk = desk_after("counter a 6", "run a 4")
        leans = leans_of(desk, "a")
        self.assertEqual(desk.say("mirror b a"), "ok")
        self.assertEqual(desk.say("show b"), board_shown(mirrored(counter(6)[0])))
        self.assertEqual(leans_of(desk, "b"), leans)
        self.assertEqual(desk.say("show a"), board_shown(counter(6)[0]))
        self.assertEqual(desk.say("names"), "a b")

    def test_mirror_of_itself(self):
        desk = desk_after("counter a 6", "run a 4")
        leans = leans_of(desk, "a")
        self.assertEqual(desk.say("mirror a a"), "ok")
        self.assertEqual(desk.say("show a"), board_shown(mirrored(counter(6)[0])))
        self.assertEqual((leans_of(desk, "a"), desk.say("names")), (leans, "a"))
        desk.say("mirror a a")
        self.assertEqual(desk.say("show a"), board_shown(counter(6)[0]))

    def test_below(self):
        desk = desk_after("counter a 5", "counter b 7", "run a 2", "run b 4")
        one, other = leans_of(desk, "a"), leans_of(desk, "b")
        self.assertEqual(desk.say("below c a b"), "ok")
        self.assertEqual(board_of(desk, "c"), below(counter(5)[0], counter(7)[0]))
        self.assertEqual(leans_of(desk, "c"), one + other)
        self.assertEqual(desk.say("below d b a"), "ok")
        self.assertEqual(board_of(desk, "d"), below(counter(7)[0], counter(5)[0]))
        self.assertEqual(leans_of(desk, "d"), other + one)
        self.assertEqual((leans_of(desk, "a"), leans_of(desk, "b")), (one, other))

    def test_below_with_its_own_name(self):
        for row in ("below a a b", "below b a b"):
            desk = desk_after("counter a 5", "counter b 7", "run a 2")
            leans = leans_of(desk, "a") + leans_of(desk, "b")
            self.assertEqual(desk.say(row), "ok")
            name = row.split(" ")[1]
            self.assertEqual(board_of(desk, name), below(counter(5)[0], counter(7)[0]))
            self.assertEqual(leans_of(desk, name), leans)
            self.assertEqual(desk.say("names"), "a b")
        desk = desk_after("counter a 5")
        leans = leans_of(desk, "a")
        self.assertEqual(desk.say("below a a a"), "ok")
        self.assertEqual((board_of(desk, "a"), leans_of(desk, "a")), (below(counter(5)[0], counter(5)[0]), leans * 2))

    def test_a_call_of_a_feeder_that_the_one_has_not(self):
        one = drawn(".....", feeders=(1,))
        desk = desk_with(a=(one, (), 0), b=(CALLING, (0,), 1))
        self.assertEqual(desk.say("below c a b"), "ok")
        self.assertEqual(board_of(desk, "c"), below(one, CALLING))
        self.assertEqual(desk.say("run c 5"), "10")

    def test_what_was_kept_is_kept_no_longer(self):
        desk = desk_after("counter a 5", "run a 3")
        for row, board, leans in (
            ("adder a 2", adder(2), (0,) * 4), ("word a 4 4", *word_board((4, 4))), ("counter a 9", *counter(9)),
            ("counter a 9", *counter(9)),
        ):
            self.assertEqual(desk.say(row), "ok")
            self.assertEqual((board_of(desk, "a"), leans_of(desk, "a")), (board, leans))
            self.assertEqual(desk.say("names"), "a")
            desk.say("run a 5")

    def test_feeder_0_behind_each(self):
        for row in ("counter a 3", "adder a 1", "word a 5 6", "mirror a b", "below a b b", "lean a 0"):
            desk = desk_with(a=(CALLING, (0,), None), b=(CALLING, (0,), None))
            self.assertEqual(desk.say("run a 1"), "-")
            self.assertEqual(desk.say(row), "ok")
            board, leans = board_of(desk, "a"), leans_of(desk, "a")
            names, behind = called(board, (leans, 0), 3)
            self.assertNotEqual(names, ())
            self.assertEqual(desk.say("run a 3"), " ".join(str(name) for name in names))


class Kept(unittest.TestCase):
    def test_names(self):
        desk = Desk()
        self.assertEqual(desk.say("names"), "-")
        for row, names in (
            ("counter b 3", "b"), ("counter abcdefgh 3", "abcdefgh b"), ("adder a 1", "a abcdefgh b"),
            ("word zz 1", "a abcdefgh b zz"), ("mirror az b", "a abcdefgh az b zz"), ("drop b", "a abcdefgh az zz"),
            ("drop a", "abcdefgh az zz"), ("drop zz", "abcdefgh az"), ("drop abcdefgh", "az"), ("drop az", "-"),
        ):
            self.assertEqual(desk.say(row), "ok")
            self.assertEqual(desk.say("names"), names)

    def test_words_as_names(self):
        desk = Desk()
        for word in ("names", "show", "counter", "word", "ok", "stuck", "below", "a"):
            self.assertEqual(desk.say(f"counter {word} 3"), "ok")
        self.assertEqual(desk.say("names"), "a below counter names ok show stuck word")
        self.assertEqual(desk.say("below names show counter"), "ok")

    def test_drop(self):
        desk = desk_after("counter a 3", "counter b 4")
        self.assertEqual(desk.say("drop a"), "ok")
        for row in ("drop a", "show a", "leans a", "ball a 0", "mirror c a"):
            self.assertIs(refusal(desk.say, row), NoName)
        self.assertEqual(desk.say("counter a 5"), "ok")
        self.assertEqual(board_of(desk, "a"), counter(5)[0])

    def test_show(self):
        for board in (MIXED, BLIND, counting_by_four()):
            desk = desk_with(a=(board, (0,) * board[1], 0))
            self.assertEqual(desk.say("show a"), board_shown(board))
            self.assertEqual(desk.say("show a"), board_shown(board))

    def test_leans(self):
        for groups in range(9):
            for leans in all_leans(groups)[::7]:
                desk = desk_with(a=(chain(groups), leans, 0))
                self.assertEqual(desk.say("leans a"), leans_shown(leans))
        self.assertEqual(desk_after("counter a 1").say("leans a"), "-")

    def test_lean(self):
        for groups in range(9):
            desk = desk_with(a=(chain(groups), (0,) * groups, None))
            for leans in all_leans(groups)[::5]:
                self.assertEqual(desk.say("lean a " + leans_shown(leans)), "ok")
                self.assertEqual(leans_of(desk, "a"), leans)
                name = told(chain(groups), leans, (0,))[0][0]
                self.assertEqual(desk.say("run a 1"), str(name))

    def test_more_or_fewer_leans(self):
        for groups in range(9):
            desk = desk_with(a=(chain(groups), (1,) * groups, 0))
            for many in range(9):
                bits = "0" * many if many else "-"
                expected = None if many == groups else NoLeans
                self.assertIs(refusal(desk.say, "lean a " + bits), expected)
                if expected:
                    self.assertEqual(leans_of(desk, "a"), (1,) * groups if many < groups else (0,) * groups)
        # More bits than leans_shown shows are none.
        self.assertIs(refusal(desk.say, "lean a " + "0" * 9), NoSaying)


class Balls(unittest.TestCase):
    def test_a_ball(self):
        desk = desk_with(a=(CALLING, (0,), 0))
        self.assertEqual(desk.say("ball a 0"), "10")
        self.assertEqual(desk.say("leans a"), "1")
        self.assertEqual(desk.say("ball a 0"), "12")
        self.assertEqual(desk.say("leans a"), "0")
        self.assertEqual(desk.say("ball a 1"), "14")
        self.assertEqual(desk.say("leans a"), "0")

    def test_the_feeder_that_the_door_calls(self):
        desk = desk_with(a=(CALLING, (0,), None))
        self.assertEqual(desk.say("ball a 0"), "10")
        # Door 10 calls feeder 1, its door calls feeder 0.
        self.assertEqual(desk.say("run a 1"), "14")
        self.assertEqual(desk.say("ball a 0"), "12")
        self.assertEqual(desk.say("run a 1"), "-")
        self.assertEqual(desk.say("round a"), "0 0")

    def test_a_ball_that_is_stuck(self):
        desk = desk_with(a=(BLIND, (0,), 0))
        self.assertEqual(desk.say("ball a 0"), "stuck")
        self.assertEqual(desk.say("leans a"), "1")
        self.assertEqual(desk.say("run a 3"), "-")
        self.assertEqual(desk.say("ball a 0"), "7")
        self.assertEqual(desk.say("run a 3"), "stuck")

    def test_whatever_was_called(self):
        for feeder in (None, 0, 1):
            desk = desk_with(a=(CALLING, (1,), feeder))
            self.assertEqual(desk.say("ball a 1"), "14")
            self.assertEqual(desk.say("round a"), "1 0")

    def test_run(self):
        desk = desk_after("counter a 3")
        self.assertEqual(desk.say("run a 0"), "-")
        self.assertEqual(desk.say("run a 1"), "0")
        self.assertEqual(desk.say("run a 4"), "0 1 0 0")
        self.assertEqual(desk.say("run a 1"), "1")
        self.assertEqual(len(desk.say("run a 2000").split(" ")), 2000)

    def test_run_to_where_one_is_stuck(self):
        board = drawn(".a.", "..s", feeders=(1,), doors=((1, 0), (2, 0), (3, 0)))
        for most, answer in ((0, "-"), (1, "1"), (2, "1 stuck"), (3, "1 stuck"), (2000, "1 stuck")):
            desk = desk_with(a=(board, (0,), 0))
            self.assertEqual(desk.say(f"run a {most}"), answer)
            self.assertEqual(desk.say("run a 1"), {"-": "1", "1": "stuck"}.get(answer, "-"))

    def test_the_stand_behind_is_kept(self):
        desk = desk_with(a=(CALLING, (0,), 0))
        for answer, leans in (("10", "1"), ("14", "1"), ("12", "0"), ("-", "0"), ("-", "0")):
            self.assertEqual(desk.say("run a 1"), answer)
            self.assertEqual(desk.say("leans a"), leans)

    def test_runs_in_parts(self):
        dice = random.Random(62)
        for number in (1, 5, 16, 100):
            whole = desk_after(f"counter a {number}").say("run a 200")
            desk = desk_after(f"counter a {number}")
            names = []
            while len(names) < 200:
                names += desk.say(f"run a {min(200 - len(names), dice.randint(1, 9))}").split(" ")
            self.assertEqual(" ".join(names), whole)


class Rounds(unittest.TestCase):
    def test_counters(self):
        for number in (1, 2, 5, 100, 256):
            desk = desk_after(f"counter a {number}")
            self.assertEqual(desk.say("round a"), f"0 {number}")
            desk.say("run a 17")
            self.assertEqual(desk.say("round a"), f"0 {number}")

    def test_stands_ahead_of_the_round(self):
        board = drawn("....", feeders=(0, 1, 2, 3), doors=((0, 1), (1, 2), (2, 3), (3, 2)))
        for feeder, answer in ((0, "2 2"), (1, "1 2"), (2, "0 2"), (3, "0 2"), (None, "0 0")):
            self.assertEqual(desk_with(a=(board, (), feeder)).say("round a"), answer)

    def test_where_the_balls_end(self):
        for first in range(8):
            desk = desk_after("adder a 3")
            desk.say("lean a " + "".join(str(first // 2 ** at % 2) for at in range(3)) + "010")
            self.assertEqual(desk.say("round a"), f"{first + 1} 0")
            self.assertEqual(len(desk.say("run a 2000").split(" ")), first + 1)
            self.assertEqual(desk.say("round a"), "0 0")
        self.assertEqual(desk_with(a=(BLIND, (0,), 0)).say("round a"), "1 0")
        self.assertEqual(desk_with(a=(counting_by_four(), (0,) * 8, 0)).say("round a"), "1024 0")
        self.assertEqual(desk_with(a=(counting_by_four(0), (0,) * 8, 0)).say("round a"), "0 1024")

    def test_nothing_is_changed(self):
        desk = desk_with(a=(CALLING, (0,), 1))
        for again in range(3):
            self.assertEqual(desk.say("round a"), "4 0")
        self.assertEqual(desk.say("run a 9"), "14 10 14 12")


class Alike(unittest.TestCase):
    def test_alike(self):
        desk = desk_after("counter a 6", "mirror b a", "word c 0 0 0 0 0 1", "word d 0 0 0 0 0 1 0 0 0 0 0 1")
        for one, other in itertools.product("abcd", repeat=2):
            self.assertEqual(desk.say(f"alike {one} {other}"), "alike")

    def test_parted_and_how_many_balls(self):
        desk = desk_after("counter a 6", "counter b 9", "word c 0", "word d 1")
        for one, other, many in (("a", "b", 6), ("b", "a", 6), ("a", "c", 6), ("b", "c", 9), ("c", "d", 1), ("a", "d", 1)):
            self.assertEqual(desk.say(f"alike {one} {other}"), f"parted {many}")

    def test_with_their_leans(self):
        desk = desk_after("counter a 6", "counter b 6", "run a 2")
        self.assertEqual(desk.say("alike a b"), "parted 4")
        desk.say("run b 2")
        self.assertEqual(desk.say("alike a b"), "alike")
        # More leans are come to than balls part them.
        one, other = with_part(chain(3), 3, (4, 0)), with_part(chain(3), 3, (0, 4))
        self.assertGreater(len(alike(one, (0,) * 3, other, (0,) * 3)[2]), 8)
        desk = desk_with(a=(one, (0,) * 3, 0), b=(other, (0,) * 3, 0))
        self.assertEqual(desk.say("alike a b"), "parted 8")
        # The feeders that are kept don't matter.
        desk = desk_with(a=(BLIND, (0,), None), b=(BLIND, (0,), 1))
        self.assertEqual(desk.say("alike a b"), "alike")

    def test_refused(self):
        desk = desk_with(a=(chain(6), (0,) * 6, 0), b=(chain(1), (0,), 0), c=(CALLING, (0,), 0))
        for row, refused in (
            ("alike a b", TooGreat), ("alike b a", TooGreat), ("alike a a", TooGreat), ("alike b c", NoFit),
            ("alike a c", NoFit), ("alike b b", None), ("alike b d", NoName), ("alike d b", NoName),
        ):
            self.assertIs(refusal(desk.say, row), refused)


GOOD_ROWS = (
    "counter c 5", "adder c 2", "word c 1", "word c 1 2 3", "mirror c a", "below c a b", "drop a", "names", "show a",
    "leans a", "lean a 000", "ball a 0", "run a 5", "round a", "alike a b",
)


class NoSayings(unittest.TestCase):
    def desk(self):
        return desk_after("counter a 5", "counter b 7")

    def is_none(self, row):
        """The row is refused with NoSaying, of a desk that keeps names and of one that keeps none."""
        for desk in (self.desk(), Desk()):
            with self.subTest(row=row[:60]):
                before = seen(desk)
                self.assertIs(refusal(desk.say, row), NoSaying)
                self.assertEqual(seen(desk), before)

    def test_good_rows(self):
        for row in GOOD_ROWS:
            self.assertIsNone(refusal(self.desk().say, row), row)

    def test_another_first_word(self):
        for row in GOOD_ROWS:
            word, *rest = row.split(" ")
            for other in (word + "s", word[:-1], word.upper(), word.capitalize(), "", "make", "a", "board", "-", "0"):
                self.is_none(" ".join([other] + rest))
        for row in ("Names", "NAMES", "name", "name s", "help", "-", "0", "~", "quit"):
            self.is_none(row)

    def test_more_or_fewer_words(self):
        for row in GOOD_ROWS:
            for more in ("a", "0", "b", "-", "names"):
                if not (row.startswith("word") and more == "0"):
                    self.is_none(row + " " + more)
            self.is_none(row + " 0 a")
            if " " in row and row != "word c 1 2 3":
                self.is_none(row.rpartition(" ")[0])
            if " " in row:
                self.is_none(row.partition(" ")[0])
        self.is_none("names a")
        self.is_none("word c")
        self.is_none("word")

    def test_blanks(self):
        for row in GOOD_ROWS:
            self.is_none(" " + row)
            self.is_none(row + " ")
            for at, sign in enumerate(row):
                if sign == " ":
                    self.is_none(row[:at] + " " + row[at:])
        for row in ("", " ", "  "):
            self.is_none(row)

    def test_no_names(self):
        for name in ("", "A", "Abc", "aB", "a1", "1", "1a", "0", "abcdefghi", "a" * 100, "-", "a-b", "a_b", "a.", "~", "a'"):
            for row in (
                f"counter {name} 5", f"adder {name} 2", f"word {name} 1", f"mirror {name} a", f"mirror c {name}",
                f"below {name} a b", f"below c {name} b", f"below c a {name}", f"drop {name}", f"show {name}",
                f"leans {name}", f"lean {name} 000", f"ball {name} 0", f"run {name} 5", f"round {name}",
                f"alike {name} b", f"alike a {name}",
            ):
                self.is_none(row)
        for name in ("a", "z", "abcdefgh", "zzzzzzzz", "qwertyui"):
            self.assertEqual(Desk().say(f"counter {name} 5"), "ok")

    def test_no_numbers(self):
        for number in ("00", "01", "05", "0000", "10000", "99999", "-1", "+1", "1.0", "1_0", "x", "five", "-", "1e3", "0x1",
                       "1" * 100):
            for row in (f"counter c {number}", f"adder c {number}", f"word c {number}", f"word c 1 {number} 2",
                        f"word c 1 2 {number}", f"ball a {number}", f"run a {number}"):
                self.is_none(row)

    def test_no_bits(self):
        for bits in ("2", "002", "0x0", "00-", "-00", "--", "0.0", "+00", "abc", "0" * 9, "1" * 50, "O00", "1,0"):
            self.is_none("lean a " + bits)

    def test_signs_beyond(self):
        for row in ("names\n", "names\t", "drop a\n", "counter c \u0663", "counter \u00e4 5", "lean a 00\u0661", "show\ta"):
            self.is_none(row)


class Refused(unittest.TestCase):
    def desk(self):
        return desk_after("counter a 5", "counter b 7", "adder d 3", "counter e 256", "run a 2")

    def is_refused(self, row, refused):
        """The row is refused so, and nothing is changed."""
        desk = self.desk()
        before = seen(desk)
        self.assertIs(refusal(desk.say, row), refused, row)
        self.assertEqual(seen(desk), before)

    def test_no_name(self):
        for row in ("mirror c x", "mirror a x", "below c x a", "below c a x", "below a a x", "below c x y", "drop x", "show x",
                    "leans x", "lean x 000", "ball x 0", "run x 5", "round x", "alike x a", "alike a x", "alike x y"):
            self.is_refused(row, NoName)

    def test_a_name_that_is_made_need_not_be_kept(self):
        for row in ("counter x 5", "adder x 2", "word x 1", "mirror x a", "below x a b"):
            self.assertEqual(self.desk().say(row), "ok")

    def test_no_number(self):
        for name in ("c", "a"):
            for row in ("counter {} 0", "counter {} 257", "counter {} 9999", "adder {} 0", "adder {} 4", "adder {} 9999"):
                self.is_refused(row.format(name), NoNumber)
        for row in ("run a 2001", "run a 9999", "run b 2001"):
            self.is_refused(row, NoNumber)
        self.assertEqual(len(self.desk().say("run a 2000").split(" ")), 2000)

    def test_no_number_where_no_ball_would_come(self):
        desk = desk_with(a=(CALLING, (0,), None))
        self.assertIs(refusal(desk.say, "run a 2001"), NoNumber)

    def test_no_feeder(self):
        for row in ("ball a 1", "ball a 2", "ball a 9999", "ball e 1"):
            self.is_refused(row, NoFeeder)
        desk = desk_with(a=(counting_by_four(), (0,) * 8, 0))
        for feeder in range(6):
            self.assertIs(refusal(desk.say, f"ball a {feeder}"), None if feeder < 4 else NoFeeder)

    def test_no_leans(self):
        for row in ("lean a 00", "lean a 0000", "lean a -", "lean a 1", "lean e 0000000", "lean d 00000"):
            self.is_refused(row, NoLeans)

    def test_no_word(self):
        for name in ("c", "a"):
            for row in ("word {} 100", "word {} 1 2 100", "word {} 9999", "word {}" + " 1" * 17, "word {}" + " 0" * 100):
                self.is_refused(row.format(name), NoWord)

    def test_no_fit(self):
        for row in ("below c a e", "below a a e", "below c e a", "below c d e"):
            self.is_refused(row, NoFit)

    def test_too_great(self):
        for row in ("below c e e", "below c d d", "below d d d", "alike e e", "alike d a", "alike a d"):
            self.is_refused(row, TooGreat)

    def test_wrong_in_two_ways(self):
        for row, refused in (
            # No row ahead of no name.
            ("lean x 2", NoSaying), ("ball x y", NoSaying), ("run x 05", NoSaying), ("below c x A", NoSaying),
            ("alike x 1", NoSaying), ("mirror A x", NoSaying), ("drop x x", NoSaying), ("below C x y", NoSaying),
            # No row ahead of what the functions refuse.
            ("counter A 0", NoSaying), ("word c 100 x", NoSaying), ("word c 1 100 01", NoSaying), ("lean a 00 0", NoSaying),
            ("adder c 4 4", NoSaying), ("ball a 10000", NoSaying), ("run a 10000", NoSaying),
            # No name ahead of what the functions refuse.
            ("lean x 00000000", NoName), ("ball x 9", NoName), ("run x 9999", NoName), ("below c e x", NoName),
            ("below c x e", NoName), ("alike e x", NoName), ("alike x e", NoName),
            # NoFit ahead of TooGreat.
            ("below c d e", NoFit),
        ):
            self.is_refused(row, refused)


class Apart(unittest.TestCase):
    def test_two_desks(self):
        one, other = Desk(), Desk()
        one.say("counter a 5")
        self.assertEqual(other.say("names"), "-")
        self.assertIs(refusal(other.say, "show a"), NoName)
        other.say("counter a 5")
        one.say("run a 3")
        self.assertEqual(one.say("leans a") == other.say("leans a"), False)
        self.assertEqual(other.say("run a 5"), "0 0 0 0 1")
        other.say("drop a")
        self.assertEqual(one.say("run a 2"), "0 1")

    def test_the_kept_ones_do_not_change_one_another(self):
        desk = desk_after("counter a 5", "mirror b a", "mirror b b", "run a 3")
        self.assertEqual(desk.say("show a"), desk.say("show b"))
        self.assertEqual(desk.say("run b 5"), "0 0 0 0 1")
        self.assertEqual(desk.say("run a 2"), "0 1")

    def test_the_same_each_time(self):
        rows = ["counter a 5", "run a 3", "adder b 2", "lean b 1101", "below c a a", "run c 9", "mirror d c", "alike a a",
                "round c", "show d", "names", "ball d 0", "leans d"]
        first = [desk.say(row) for desk in [Desk()] for row in rows]
        for again in range(2):
            desk = Desk()
            self.assertEqual([desk.say(row) for row in rows], first)


class ModelDesk:
    """[34] once more, over the functions themselves."""

    def __init__(self):
        self.stands = {}

    def make(self, name, board, leans):
        self.stands[name] = (board, leans, 0)
        return "ok"

    def say(self, row):
        word, *rest = row.split(" ")
        if word == "counter":
            return self.make(rest[0], *counter(int(rest[1])))
        if word == "adder":
            return self.make(rest[0], adder(int(rest[1])), (0,) * (2 * int(rest[1])))
        if word == "word":
            return self.make(rest[0], *word_board(tuple(int(name) for name in rest[1:])))
        if word == "names":
            return " ".join(sorted(self.stands)) or "-"
        for name in rest[1:] if word in ("mirror", "below") else rest if word == "alike" else rest[:1]:
            if name not in self.stands:
                raise NoName()
        if word == "mirror":
            return self.make(rest[0], mirrored(self.stands[rest[1]][0]), self.stands[rest[1]][1])
        if word == "below":
            one, other = self.stands[rest[1]], self.stands[rest[2]]
            return self.make(rest[0], below(one[0], other[0]), one[1] + other[1])
        board, leans, feeder = self.stands[rest[0]]
        if word == "alike":
            answer = alike(board, leans, *self.stands[rest[1]][:2])
            return "alike" if answer[0] == "alike" else f"parted {len(answer[1])}"
        if word == "drop":
            del self.stands[rest[0]]
            return "ok"
        if word == "show":
            return board_shown(board)
        if word == "leans":
            return leans_shown(leans)
        if word == "round":
            stands, back = for_ever(board, (leans, feeder))
            if back is None:
                return f"{len([1 for stand in stands if stand[1] is not None])} 0"
            return f"{len(stands[:back])} {len(stands[back:])}"
        if word == "lean":
            bits = tuple(int(sign) for sign in rest[1].replace("-", ""))
            if len(bits) != board[1]:
                raise NoLeans()
            return self.make(rest[0], board, bits)
        if word == "run":
            names, (behind, following) = called(board, (leans, feeder), int(rest[1]))
        else:
            if int(rest[1]) >= len(board[3]):
                raise NoFeeder()
            names, (behind, following) = called(board, (leans, int(rest[1])), 1)
        self.stands[rest[0]] = (board, behind, following)
        return " ".join("stuck" if name is None else str(name) for name in names) or "-"


class ByTheFunctions(unittest.TestCase):
    def rolled_row(self, dice):
        word = dice.choice(["counter", "adder", "word", "mirror", "below", "below", "drop", "names", "show", "leans", "lean",
                            "lean", "ball", "run", "run", "round", "alike", "alike"])
        names = [dice.choice("aaabbcd") for name in range(3)]
        if word == "names":
            return word
        if word in ("counter", "ball", "run", "adder"):
            high = {"counter": 12, "ball": 1, "run": 30, "adder": 3}[word]
            return f"{word} {names[0]} {dice.randint(0, high)}"
        if word == "word":
            return f"word {names[0]}" + "".join(f" {dice.choice((0, 1, 1, 99))}" for name in range(dice.randint(1, 6)))
        if word == "lean":
            return f"lean {names[0]} " + ("".join(dice.choice("01") for bit in range(dice.randint(0, 6))) or "-")
        many = {"mirror": 2, "below": 3, "alike": 2}.get(word, 1)
        return " ".join([word] + names[:many])

    def answer(self, desk, row):
        """What the desk answers, or the class of its refusal."""
        try:
            return desk.say(row)
        except BoardError as error:
            return type(error)

    def test_rows_by_dice(self):
        dice = random.Random(63)
        answers = {}
        for again in range(60):
            desk, model = Desk(), ModelDesk()
            if again % 2:
                for name, board in (("a", BLIND), ("b", CALLING), ("d", MIXED)):
                    desk.kept[name] = model.stands[name] = (board, (0,) * board[1], 0)
            for said in range(80):
                row = self.rolled_row(dice)
                answer = self.answer(desk, row)
                self.assertEqual(answer, self.answer(model, row), row)
                answers.setdefault(row.split(" ")[0], set()).add(answer)
                for name in [""] + list(model.stands):
                    for word in ("show", "leans", "round") if name else ("names",):
                        look = f"{word} {name}".strip()
                        self.assertEqual(desk.say(look), model.say(look))
        self.assertEqual(len(answers), 14)
        for word in ("run", "ball", "round", "alike", "lean", "below"):
            self.assertGreater(len(answers[word]), 2, word)


if __name__ == "__main__":
    unittest.main()
