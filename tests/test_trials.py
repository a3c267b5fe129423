"""trials and trials_holds [30], and what they refuse [2], [3], [4], [8]."""

import copy
import itertools
import random
import unittest

from ballrockers.boards import all_leans
from ballrockers.counters import counter
from ballrockers.errors import Fault, NoBoard, NoLeans, TooGreat
from ballrockers.faults import broken, faults_told
from ballrockers.trials import trials, trials_holds
from samples import (
    FAULTY, FAULTY_AT, LEAST, MIXED, chain, changed_papers, drawn, kinds_changed, model_ball, model_is_leans, no_boards,
    no_leans, no_rows, number_kinds, others, plain_board, refusal, rolled_board, rolled_leans, rolled_turning_board,
    with_place,
)

# Feeder 0's balls meet group 0, feeder 1's group 1; none meets group 2.
APART = drawn(".a..b..c.", feeders=(1, 4))


def two_faults(board):
    """Each two faults, one ahead of other."""
    return list(itertools.combinations([None] + list(range(board[1])), 2))


def pairs_come_to(board, leans, one, other):
    """All pairs of leans that both come to, by the model, None where some row parts them."""
    found, left = {(leans, leans)}, [(leans, leans)]
    while left:
        place = left.pop()
        for feeder in range(len(board[3])):
            name, call, behind = model_ball(board, place[0], feeder, one)
            other_name, other_call, other_behind = model_ball(board, place[1], feeder, other)
            if name != other_name:
                return None
            if (behind, other_behind) not in found:
                found.add((behind, other_behind))
                left.append((behind, other_behind))
    return tuple(sorted(found))


def model_likes(board, leans):
    """The likes that trials tells."""
    found = [(one, other, pairs_come_to(board, leans, one, other)) for one, other in two_faults(board)]
    return tuple(like for like in found if like[2] is not None)


def parts(board, leans, row, one, other):
    """Whether the row parts the two faults."""
    return broken(board, leans, one, row)[0] != broken(board, leans, other, row)[0]


def table_holds(board, leans, one, other, table):
    """[20] word by word, of boards with faults."""
    if type(table) is not tuple:
        return False
    for pair in table:
        if type(pair) is not tuple or len(pair) != 2 or not all(model_is_leans(board, part) for part in pair):
            return False
    for place in set(table):
        for feeder in range(len(board[3])):
            name, call, behind = model_ball(board, place[0], feeder, one)
            other_name, other_call, other_behind = model_ball(board, place[1], feeder, other)
            if name != other_name or (behind, other_behind) not in table:
                return False
    return (leans, leans) in table


def model_holds(board, leans, paper):
    """[30] word by word."""
    if board[1] > 4 or type(paper) is not tuple or len(paper) != 2:
        return False
    rows, likes = paper
    if type(rows) is not tuple or type(likes) is not tuple:
        return False
    for row in rows:
        if type(row) is not tuple or len(row) > 2000:
            return False
        if not all(type(feeder) is int and feeder in range(len(board[3])) for feeder in row):
            return False
    known = []
    for like in likes:
        if type(like) is not tuple or len(like) != 3 or type(like[0]) not in (int, type(None)) or type(like[1]) is not int:
            return False
        if like[:2] not in two_faults(board) or like[:2] in known or not table_holds(board, leans, *like):
            return False
        known.append(like[:2])
    return all(pair in known or any(parts(board, leans, row, *pair) for row in rows) for pair in two_faults(board))


def each_asked(seed, many=60, most=4):
    dice = random.Random(seed)
    yield LEAST, ()
    yield MIXED, (0, 1)
    yield APART, (0, 1, 0)
    for again in range(many):
        if again % 3:
            board = rolled_turning_board(dice, dice.randint(0, most), dice.randint(1, 4), again % 2)
            board = board[:4] + (tuple((dice.choice((0, 0, 1)), call) for name, call in board[4]),)
        else:
            board = rolled_board(dice, groups=dice.randint(0, most))
        yield board, rolled_leans(dice, board)


class Trials(unittest.TestCase):
    def test_no_groups(self):
        for board in (LEAST, drawn("s"), drawn("...", feeders=(0, 1, 2))):
            self.assertEqual(trials(board, ()), ((), ()))

    def test_one_group_that_is_seen(self):
        board = drawn(".a.", feeders=(1,))
        for leans in ((0,), (1,)):
            rows, likes = trials(board, leans)
            self.assertEqual(likes, ())
            self.assertEqual(rows, ((0, 0),))

    def test_one_group_that_is_not_seen(self):
        board = drawn(".a.", feeders=(1,), doors=((5, 0),) * 3)
        self.assertEqual(trials(board, (0,)), ((), ((None, 0, (((0,), (0,)), ((1,), (0,)))),)))
        self.assertEqual(trials(board, (1,)), ((), ((None, 0, (((0,), (1,)), ((1,), (1,)))),)))

    def test_a_group_that_is_not_met(self):
        board = plain_board(groups=1, feeders=1)
        self.assertEqual(trials(board, (1,)), ((), ((None, 0, (((1,), (1,)),)),)))
        rows, likes = trials(APART, (0, 0, 0))
        self.assertEqual([like[:2] for like in likes], [(None, 2)])
        self.assertEqual(likes[0][2], tuple((leans, leans) for leans in all_leans(3) if leans[2] == 0))

    def test_one_ahead_of_other_in_order(self):
        rows, likes = trials(plain_board(groups=4), (0, 1, 1, 0))
        self.assertEqual(rows, ())
        table = (((0, 1, 1, 0), (0, 1, 1, 0)),)
        self.assertEqual(likes, (
            (None, 0, table), (None, 1, table), (None, 2, table), (None, 3, table), (0, 1, table), (0, 2, table),
            (0, 3, table), (1, 2, table), (1, 3, table), (2, 3, table),
        ))

    def test_a_chain(self):
        for groups in range(5):
            board = chain(groups)
            for leans in all_leans(groups):
                rows, likes = trials(board, leans)
                self.assertEqual(likes, model_likes(board, leans))
                self.assertIs(trials_holds(board, leans, (rows, likes)), True)

    def test_likes_by_the_model(self):
        found = set()
        for board, leans in each_asked(121):
            answer = trials(board, leans)
            self.assertIs(type(answer), tuple)
            rows, likes = answer
            self.assertEqual(number_kinds(likes), number_kinds(model_likes(board, leans)))
            found.add((bool(rows), bool(likes)))
        self.assertEqual(len(found), 4)

    def test_rows_part_all_others(self):
        for board, leans in each_asked(122):
            rows, likes = trials(board, leans)
            self.assertIs(type(rows), tuple)
            self.assertEqual(len(set(rows)), len(rows))
            alike_ones = [like[:2] for like in likes]
            for pair in two_faults(board):
                self.assertEqual(any(parts(board, leans, row, *pair) for row in rows), pair not in alike_ones)
            for row in rows:
                self.assertIs(type(row), tuple)
                self.assertTrue(all(type(feeder) is int and feeder in range(len(board[3])) for feeder in row))

    def test_short_rows_gone_through(self):
        for board, leans in each_asked(123, 40, 3):
            rows, likes = trials(board, leans)
            alike_ones = [like[:2] for like in likes]
            for many in range(4):
                for row in itertools.product(range(len(board[3])), repeat=many):
                    for pair in two_faults(board):
                        if parts(board, leans, row, *pair):
                            self.assertNotIn(pair, alike_ones)

    def test_what_rows_show_is_found(self):
        # Whoever asks these rows of a board with a fault is told that fault, and those that no row parts from it.
        for board, leans in each_asked(124):
            rows, likes = trials(board, leans)
            for fault in [None] + list(range(board[1])):
                answers = tuple(broken(board, leans, fault, row)[0] for row in rows)
                same = {fault} | {one for one, other, table in likes if other == fault}
                same |= {other for one, other, table in likes if one == fault}
                self.assertEqual(set(faults_told(board, leans, rows, answers)), same)

    def test_the_checker_lets_it_by(self):
        for board, leans in each_asked(125):
            self.assertIs(trials_holds(board, leans, trials(board, leans)), True)

    def test_greatest_boards(self):
        dice = random.Random(126)
        for again in range(4):
            board = rolled_board(dice, width=40, groups=4, rows=60, feeders=4)
            leans = rolled_leans(dice, board)
            paper = trials(board, leans)
            self.assertEqual(paper[1], model_likes(board, leans))
            self.assertIs(trials_holds(board, leans, paper), True)


class Holds(unittest.TestCase):
    leans = (0, 0, 0)

    def paper(self):
        return trials(APART, self.leans)

    def holds(self, rows, likes):
        return trials_holds(APART, self.leans, (rows, likes))

    def test_rows_in_any_order_twice_and_more(self):
        rows, likes = self.paper()
        self.assertGreater(len(rows), 1)
        for order in itertools.permutations(rows + rows[:1]):
            self.assertIs(self.holds(order, likes), True)
        for more in ((), (0,), (0, 1, 1, 0), (1,) * 2000):
            self.assertIs(self.holds(rows + (more,), likes), True)
            self.assertIs(self.holds((more,) + rows + (more,), likes), True)
        self.assertIs(self.holds(((0, 0, 1, 1),), likes), True)

    def test_two_faults_neither_in_likes_nor_parted(self):
        rows, likes = self.paper()
        for wrong in ((), ((0,),), ((0, 0),), ((1, 1),), ((0,), (1,), (0, 1)), ((),)):
            self.assertIs(self.holds(wrong, likes), False)
        self.assertIs(self.holds(((0, 0), (1, 1)), likes), True)
        self.assertIs(self.holds(rows, ()), False)

    def test_likes_in_any_order(self):
        board, leans = plain_board(groups=3), (0, 1, 0)
        rows, likes = trials(board, leans)
        self.assertEqual(len(likes), 6)
        for order in itertools.permutations(likes):
            self.assertIs(trials_holds(board, leans, ((), order)), True)
        for at in range(6):
            self.assertIs(trials_holds(board, leans, ((), likes[:at] + likes[at + 1:])), False)

    def test_two_faults_twice(self):
        rows, likes = self.paper()
        self.assertIs(self.holds(rows, likes + likes), False)
        one, other, table = likes[0]
        self.assertIs(self.holds(rows, likes + ((one, other, table + table),)), False)

    def test_the_other_one_first(self):
        rows, likes = self.paper()
        one, other, table = likes[0]
        for wrong in ((other, one, table), (one, one, table), (other, other, table), (0, 1, table), (1, 2, table)):
            self.assertIs(self.holds(rows, (wrong,)), False)
            self.assertIs(self.holds(rows, likes + (wrong,)), False)
        # The tables of two groups that no ball meets, the greater one first.
        board = plain_board(groups=2)
        table = (((0, 0), (0, 0)),)
        self.assertIs(trials_holds(board, (0, 0), ((), ((None, 0, table), (None, 1, table), (0, 1, table)))), True)
        self.assertIs(trials_holds(board, (0, 0), ((), ((None, 0, table), (None, 1, table), (1, 0, table)))), False)

    def test_tables(self):
        rows, likes = self.paper()
        one, other, table = likes[0]
        self.assertEqual(len(table), 4)
        for order in itertools.permutations(table + table[:1]):
            self.assertIs(self.holds(rows, ((one, other, order),)), True)
        for at in range(4):
            self.assertIs(self.holds(rows, ((one, other, table[:at] + table[at + 1:]),)), False)
        self.assertIs(self.holds(rows, ((one, other, ()),)), False)
        # More pairs, as long as they lead on within the table.
        more = tuple((first[:2] + (1,), second[:2] + (1,)) for first, second in table)
        self.assertIs(self.holds(rows, ((one, other, table + more),)), True)
        self.assertIs(self.holds(rows, ((one, other, more),)), False)
        self.assertIs(self.holds(rows, ((one, other, table + more[:3]),)), False)

    def test_more_pairs_with_other_leans_of_the_broken_group(self):
        # All names are alike: the broken group leads as it leans in each pair, told or not.
        board = drawn(".a.", feeders=(1,), doors=((5, 0),) * 3)
        table = (((0,), (0,)), ((1,), (0,)))
        more = (((0,), (1,)), ((1,), (1,)))
        self.assertIs(trials_holds(board, (0,), ((), ((None, 0, table),))), True)
        self.assertIs(trials_holds(board, (0,), ((), ((None, 0, table + more),))), True)
        for wrong in (more, table + more[:1], table + more[1:], more + table[:1]):
            self.assertIs(trials_holds(board, (0,), ((), ((None, 0, wrong),))), False)
        # Where it would lead to another name with other leans the pair parts them.
        board = drawn("..a..", ".b.b.", ".....", feeders=(2,), doors=((1, 0), (1, 0), (1, 0), (1, 0), (2, 0)))
        for leans in all_leans(2):
            for pairs in itertools.combinations(itertools.product(all_leans(2), repeat=2), 2):
                paper = ((), ((None, 0, pairs),))
                self.assertIs(trials_holds(board, leans, paper), model_holds(board, leans, paper))

    def test_faults_that_some_row_parts(self):
        rows, likes = self.paper()
        whole = tuple(itertools.product(all_leans(3), repeat=2))
        for pair in two_faults(APART):
            for table in (whole, likes[0][2]):
                held = pair == (None, 2) and table == likes[0][2]
                self.assertIs(self.holds(rows, tuple(like for like in likes if like[:2] != pair) + (pair + (table,),)), held)

    def test_row_lengths(self):
        rows, likes = self.paper()
        for many, held in ((1999, True), (2000, True), (2001, False), (2002, False), (15000, False)):
            self.assertIs(self.holds(rows + ((0,) * many,), likes), held)
        # The parting ball may be the very last one.
        board = drawn(".a.", ".s.", feeders=(1, 0))
        for many, held in ((1998, True), (1999, False)):
            self.assertIs(trials_holds(board, (0,), (((1,) * many + (0, 0),), ())), held)

    def test_no_rows(self):
        rows, likes = trials(MIXED, (0, 1))
        self.assertIs(trials_holds(MIXED, (0, 1), (rows, likes)), True)
        for row in no_rows(2000):
            with self.subTest(row=str(row)[:60]):
                self.assertIs(trials_holds(MIXED, (0, 1), (rows + (row,), likes)), False)
                self.assertIs(trials_holds(MIXED, (0, 1), ((row,) + rows, likes)), False)

    def test_changed_papers(self):
        held = 0
        for board, leans in each_asked(127, 20, 2):
            paper = trials(board, leans)
            if len(str(paper)) < 400:
                for changed in changed_papers(paper):
                    answer = trials_holds(board, leans, changed)
                    self.assertIs(answer, model_holds(board, leans, changed), changed)
                    held += answer
        self.assertGreater(held, 20)

    def test_kinds(self):
        for board, leans in each_asked(128, 30):
            for changed in kinds_changed(trials(board, leans)):
                self.assertIs(trials_holds(board, leans, changed), False)

    def test_things_of_any_kind(self):
        for board, leans in ((LEAST, ()), (MIXED, (0, 1)), (APART, (0, 0, 0))):
            rows, likes = trials(board, leans)
            for thing in others() + [0, 1, (), (rows, likes), rows, likes]:
                papers = [thing, (thing, likes), (rows, thing), (rows + (thing,), likes), (rows, likes + (thing,)),
                          (rows, likes + ((None, thing, ()),)), (rows, likes + ((thing, 0, ()),))]
                papers += [(rows, ((thing,) + like[1:],)) for like in likes]
                papers += [(rows, (like[:1] + (thing,) + like[2:],)) for like in likes]
                papers += [(rows, (like[:2] + (thing,),)) for like in likes]
                papers += [(rows, (like[:2] + (like[2] + (thing,),),)) for like in likes]
                papers += [(rows, (like[:2] + (like[2] + ((thing, leans),),),)) for like in likes]
                for paper in papers:
                    with self.subTest(paper=str(paper)[:60]):
                        self.assertIs(trials_holds(board, leans, paper), model_holds(board, leans, paper))

    def test_more_than_four_groups(self):
        for groups in range(9):
            board = plain_board(groups=groups)
            leans = (0,) * groups
            likes = tuple(pair + (((leans, leans),),) for pair in two_faults(board))
            self.assertIs(trials_holds(board, leans, ((), likes)), groups <= 4)
        self.assertIs(trials_holds(counter(32)[0], (0,) * 5, ((), ())), False)

    def test_no_groups(self):
        for paper, held in ((((), ()), True), ((((),), ()), True), ((((0,), (0, 0)), ()), True), (((), ((),)), False),
                            (((), ((None, None, (((), ()),)),)), False), (((1,), ()), False), ((((1,),), ()), False)):
            self.assertIs(trials_holds(LEAST, (), paper), held)


class Refused(unittest.TestCase):
    def asks(self):
        yield trials
        for paper in (None, trials(MIXED, (0, 1)), [], ((), ())):
            yield lambda board, leans, paper=paper: trials_holds(board, leans, paper)

    def test_no_board_comes_first(self):
        for ask in self.asks():
            for board in no_boards():
                for leans in ((0, 1), None, []):
                    with self.subTest(board=str(board)[:60]):
                        self.assertIs(refusal(ask, board, leans), NoBoard)

    def test_fault_comes_then(self):
        great = with_place(plain_board(3, 8), 1, 2, "x")
        for ask in self.asks():
            for leans in ((0, 1), None, [], (0,) * 8):
                self.assertEqual(refusal(ask, FAULTY, leans), (Fault,) + FAULTY_AT)
                self.assertEqual(refusal(ask, great, leans), (Fault, 1, 2))

    def test_no_leans_comes_then(self):
        for ask in self.asks():
            for leans in no_leans() + [()]:
                with self.subTest(leans=str(leans)[:60]):
                    self.assertIs(refusal(ask, MIXED, leans), NoLeans)
                    self.assertIs(refusal(ask, plain_board(groups=5), leans), NoLeans)

    def test_too_great_comes_last(self):
        for groups in range(9):
            expected = TooGreat if groups > 4 else None
            self.assertIs(refusal(trials, plain_board(groups=groups), (0,) * groups), expected)
            self.assertIsNone(refusal(trials_holds, plain_board(groups=groups), (0,) * groups, None))

    def test_what_is_handed_in_stays(self):
        for thing in others() + [[[[0]], []], ([(0,)], ()), (((0,),), [[None, 0, []]])]:
            before = copy.deepcopy(thing)
            trials_holds(MIXED, (0, 1), thing)
            refusal(trials, thing, thing)
            refusal(trials, MIXED, thing)
            refusal(trials_holds, MIXED, thing, thing)
            self.assertEqual(thing, before)

    def test_the_same_each_time(self):
        asked = list(each_asked(129, 30))
        first = [trials(*things) for things in asked]
        self.assertEqual([trials(*things) for things in asked[::-1]][::-1], first)


if __name__ == "__main__":
    unittest.main()
