"""The whole program: its interface, what each function refuses and in which order, and what holds of all [2], [3], [4]."""

import copy
import importlib
import inspect
import itertools
import unittest

from ballrockers import errors
from ballrockers.errors import (
    Fault, NoBoard, NoFault, NoFeeder, NoFit, NoLeans, NoMachine, NoNames, NoNumber, NoRow, NoStand, NoText, NoWord,
    TooGreat,
)
from samples import (
    FAULTY, FAULTY_AT, LEAST, MIXED, chain, changed_papers, drawn, no_boards, no_feeders, no_leans, no_rows, no_stands,
    number_kinds, others, plain_board, refusal, with_place,
)

# Each function of the interface, and what it's handed, by its module.
INTERFACE = {
    "boards": {"look_at_board": 1, "is_leans": 2, "is_stand": 2, "all_leans": 1},
    "mirrors": {"mirrored": 1},
    "ways": {"way": 3, "way_holds": 4},
    "runs": {"told": 3, "called": 3},
    "ever": {"for_ever": 2, "for_ever_holds": 3},
    "counts": {"after": 3, "after_holds": 5},
    "words": {"doors_word": 2, "word_holds": 4},
    "groups": {"least_groups": 2},
    "likeness": {"alike": 4, "alike_holds": 5},
    "blind": {"stuck": 2, "stuck_holds": 3},
    "counters": {"counter": 1},
    "adders": {"adder": 1},
    "machines": {"machine_board": 1, "word_board": 1},
    "joined": {"below": 2},
    "undoing": {"undone": 3, "undo_clash": 1, "clash_holds": 2},
    "faults": {"broken": 4, "faults_told": 4},
    "trials": {"trials": 2, "trials_holds": 3},
    "beats": {"at_once": 4, "is_quick": 1},
    "least": {"machine_told": 3, "least_machine": 2, "least_holds": 3, "remade": 2},
    "beside": {"beside": 2},
    "rounds": {"rounds": 1, "counted": 1},
    "texts": {"board_shown": 1, "board_read": 1, "leans_shown": 1},
}

ASKED = {
    name: getattr(importlib.import_module("ballrockers." + module), name)
    for module, functions in INTERFACE.items() for name in functions
}

STAND = ((0, 1), 0)
GREAT = plain_board(3, 8, 1, 2)
GREAT_LEANS = (0,) * 8
OTHER_FAULT = with_place(MIXED, 2, 4, ">")
OTHER_FAULT_AT = (Fault, 2, 4)
FAULT_AT = (Fault,) + FAULTY_AT
# Each ball of it comes out.
FREE = drawn(".a.b.", feeders=(1, 3))


def board_wrongs(at=0):
    """What is no board at the place of a board."""
    return [({at: thing}, NoBoard) for thing in no_boards()[::6]] + [({at: FAULTY}, FAULT_AT), ({at: OTHER_FAULT}, OTHER_FAULT_AT)]


def wrongs_at(at, things, refused):
    return [({at: thing}, refused) for thing in things]


LEANS_WRONGS = wrongs_at(1, no_leans()[::5], NoLeans)
STAND_WRONGS = wrongs_at(1, no_stands()[::9], NoStand)
NUMBER_WRONGS = [None, True, False, "0", [], (), (0,), -1, 10 ** 59]
ROW_WRONGS = no_rows(2000)[::7]

# Of each function what it is handed well, and then, in the order of the document, what it refuses: things by their places.
ORDERS = {
    "look_at_board": ((MIXED,), [board_wrongs()]),
    "is_leans": ((MIXED, (0, 1)), [board_wrongs()]),
    "is_stand": ((MIXED, STAND), [board_wrongs()]),
    "all_leans": ((3,), [wrongs_at(0, NUMBER_WRONGS + [9], NoNumber)]),
    "mirrored": ((MIXED,), [board_wrongs()]),
    "way": ((MIXED, (0, 1), 1), [board_wrongs(), LEANS_WRONGS, wrongs_at(2, no_feeders(), NoFeeder)]),
    "way_holds": ((MIXED, (0, 1), 1, None), [board_wrongs(), LEANS_WRONGS, wrongs_at(2, no_feeders(), NoFeeder)]),
    "told": ((MIXED, (0, 1), (0, 1)), [board_wrongs(), LEANS_WRONGS, wrongs_at(2, ROW_WRONGS, NoRow)]),
    "called": ((MIXED, STAND, 5), [board_wrongs(), STAND_WRONGS, wrongs_at(2, NUMBER_WRONGS + [2001], NoNumber)]),
    "for_ever": ((MIXED, STAND), [board_wrongs(), STAND_WRONGS]),
    "for_ever_holds": ((MIXED, STAND, None), [board_wrongs(), STAND_WRONGS]),
    "after": ((MIXED, STAND, 5), [board_wrongs(), STAND_WRONGS, wrongs_at(2, NUMBER_WRONGS + [10 ** 50 + 1], NoNumber)]),
    "after_holds": ((MIXED, STAND, 5, None, None), [board_wrongs(), STAND_WRONGS]),
    "doors_word": ((MIXED, STAND), [board_wrongs(), STAND_WRONGS]),
    "word_holds": ((MIXED, STAND, None, None), [board_wrongs(), STAND_WRONGS]),
    "least_groups": ((5, 2), [wrongs_at(0, NUMBER_WRONGS + [0, 10 ** 9 + 1], NoNumber), wrongs_at(1, NUMBER_WRONGS + [0, 5], NoNumber)]),
    "alike": ((MIXED, (0, 1), MIXED, (0, 1)), [
        board_wrongs(), board_wrongs(2), LEANS_WRONGS, wrongs_at(3, no_leans()[::5], NoLeans),
        [({2: LEAST, 3: ()}, NoFit)], [({0: GREAT, 1: GREAT_LEANS}, TooGreat), ({2: GREAT, 3: GREAT_LEANS}, TooGreat)],
    ]),
    "alike_holds": ((MIXED, (0, 1), MIXED, (0, 1), None), [
        board_wrongs(), board_wrongs(2), LEANS_WRONGS, wrongs_at(3, no_leans()[::5], NoLeans),
    ]),
    "stuck": ((MIXED, (0, 1)), [board_wrongs(), LEANS_WRONGS]),
    "stuck_holds": ((MIXED, (0, 1), None), [board_wrongs(), LEANS_WRONGS]),
    "counter": ((5,), [wrongs_at(0, NUMBER_WRONGS + [0, 257], NoNumber)]),
    "adder": ((2,), [wrongs_at(0, NUMBER_WRONGS + [0, 4], NoNumber)]),
    "machine_board": (((((0, 0),),),), [wrongs_at(0, others(), NoMachine)]),
    "word_board": (((5, 6),), [wrongs_at(0, others(), NoWord)]),
    "below": ((MIXED, MIXED), [
        board_wrongs(), board_wrongs(1), [({1: plain_board(4)}, NoFit), ({0: LEAST}, NoFit)],
        [({1: plain_board(5, 7)}, TooGreat), ({1: plain_board(5, 0, 60)}, TooGreat)],
    ]),
    "undone": ((MIXED, (0, 1), 3), [board_wrongs(), LEANS_WRONGS, wrongs_at(2, NUMBER_WRONGS + [5], NoNumber)]),
    "undo_clash": ((MIXED,), [board_wrongs()]),
    "clash_holds": ((MIXED, None), [board_wrongs()]),
    "broken": ((MIXED, (0, 1), 1, (0,)), [
        board_wrongs(), LEANS_WRONGS, wrongs_at(2, NUMBER_WRONGS[1:] + [2], NoFault), wrongs_at(3, ROW_WRONGS, NoRow),
    ]),
    "faults_told": ((MIXED, (0, 1), ((0,),), ((7,),)), [
        board_wrongs(), LEANS_WRONGS, wrongs_at(2, [None, 0, [(0,)], ((2,),), ([0],), ((True,),), (0,)], NoRow),
        wrongs_at(3, [None, 0, [(7,)], (), ((7,), (7,)), ((100,),), ((True,),), (7,), ([7],)], NoNames),
    ]),
    "trials": ((MIXED, (0, 1)), [board_wrongs(), LEANS_WRONGS, [({0: GREAT, 1: GREAT_LEANS}, TooGreat)]]),
    "trials_holds": ((MIXED, (0, 1), None), [board_wrongs(), LEANS_WRONGS]),
    "at_once": ((MIXED, (0, 1), (0, 1), 3), [
        board_wrongs(), LEANS_WRONGS, wrongs_at(2, no_rows(200)[::7], NoRow),
        wrongs_at(3, NUMBER_WRONGS + [0, 101], NoNumber),
    ]),
    "is_quick": ((MIXED,), [board_wrongs()]),
    "machine_told": (((((0, 0),),), 0, (0,)), [
        wrongs_at(0, others(), NoMachine), wrongs_at(1, NUMBER_WRONGS + [1], NoNumber),
        wrongs_at(2, [None, 0, [0], (1,), (True,), (0,) * 2001], NoRow),
    ]),
    "least_machine": ((FREE, (0, 1)), [
        board_wrongs(), LEANS_WRONGS, [({0: GREAT, 1: GREAT_LEANS}, TooGreat), ({0: chain(6, True), 1: (0,) * 6}, TooGreat)],
        [({0: chain(5), 1: (0,) * 5}, NoMachine), ({0: chain(2, True), 1: (0, 0)}, NoMachine)],
    ]),
    "least_holds": ((FREE, (0, 1), None), [board_wrongs(), LEANS_WRONGS]),
    "remade": ((FREE, (0, 1)), [
        board_wrongs(), LEANS_WRONGS, [({0: GREAT, 1: GREAT_LEANS}, TooGreat), ({0: chain(6, True), 1: (0,) * 6}, TooGreat)],
        [({0: chain(5), 1: (0,) * 5}, NoMachine), ({0: chain(2, True), 1: (0, 0)}, NoMachine)],
    ]),
    "beside": ((MIXED, MIXED), [
        board_wrongs(), board_wrongs(1),
        [({1: plain_board(36)}, TooGreat), ({1: plain_board(3, 7)}, TooGreat), ({0: plain_board(3, 1, 1, 3)}, TooGreat)],
    ]),
    "rounds": ((MIXED,), [board_wrongs(), [({0: GREAT}, TooGreat)]]),
    "counted": ((MIXED,), [board_wrongs(), [({0: GREAT}, TooGreat)]]),
    "board_shown": ((MIXED,), [board_wrongs()]),
    "board_read": (("board 1 0\nfeeders 0\ndoors 0>0\n",), [wrongs_at(0, others() + [MIXED], NoText)]),
    "leans_shown": (((0, 1),), []),
}


def changed_at(things, *changes):
    """The things with others in some places."""
    found = list(things)
    for change in changes:
        for at, thing in change.items():
            found[at] = thing
    return found


def papers():
    """Each checker, what it's handed, and the places of its papers: all that it's handed but boards, leans and so on."""
    told = ASKED
    paper = told["for_ever"](MIXED, STAND)
    yield "way_holds", (MIXED, (0, 1), 1, told["way"](MIXED, (0, 1), 1)), (3,)
    yield "for_ever_holds", (MIXED, STAND, paper), (2,)
    yield "after_holds", (MIXED, STAND, 3, paper, told["after"](MIXED, STAND, 3)), (2, 3, 4)
    yield "word_holds", (MIXED, STAND, paper, told["doors_word"](MIXED, STAND)), (2, 3)
    for other in ((0, 1), (1, 1)):
        yield "alike_holds", (MIXED, (0, 1), MIXED, other, told["alike"](MIXED, (0, 1), MIXED, other)), (4,)
    for board in (MIXED, FREE):
        yield "stuck_holds", (board, (0, 1), told["stuck"](board, (0, 1))), (2,)
        yield "trials_holds", (board, (0, 1), told["trials"](board, (0, 1))), (2,)
    clashing = plain_board()
    yield "clash_holds", (clashing, told["undo_clash"](clashing)), (1,)
    yield "least_holds", (FREE, (0, 1), told["least_machine"](FREE, (0, 1))), (2,)


class Interface(unittest.TestCase):
    def test_names_and_arguments(self):
        for module, functions in INTERFACE.items():
            drawn_in = importlib.import_module("ballrockers." + module)
            for name, many in functions.items():
                with self.subTest(name):
                    asked = inspect.signature(getattr(drawn_in, name)).parameters.values()
                    self.assertEqual(len(asked), many)
                    self.assertTrue(all(part.default is part.empty for part in asked))
                    self.assertEqual(getattr(drawn_in, name).__module__, drawn_in.__name__)

    def test_desk(self):
        desk = importlib.import_module("ballrockers.desk").Desk()
        self.assertEqual(desk.say("names"), "-")

    def test_each_function_is_asked_here(self):
        self.assertEqual(set(ORDERS), set(ASKED))
        self.assertEqual({name for name, things, places in papers()}, {name for name in ASKED if name.endswith("_holds")})

    def test_errors(self):
        names = ("NoBoard", "Fault", "NoLeans", "NoStand", "NoFeeder", "NoRow", "NoNumber", "NoFit", "TooGreat", "NoMachine",
                 "NoWord", "NoFault", "NoNames", "NoText", "NoSaying", "NoName")
        for name in names:
            self.assertEqual(getattr(errors, name).__bases__, (errors.BoardError,))
        self.assertEqual(errors.BoardError.__bases__, (ValueError,))
        self.assertEqual((Fault(3, 4).row, Fault(3, 4).column), (3, 4))


class Orders(unittest.TestCase):
    def test_nothing_is_refused(self):
        for name, (things, orders) in ORDERS.items():
            self.assertIsNone(refusal(ASKED[name], *things), name)

    def test_each_by_itself(self):
        for name, (things, orders) in ORDERS.items():
            for wrongs in orders:
                for change, refused in wrongs:
                    with self.subTest(name=name, change=str(change)[:60]):
                        self.assertEqual(refusal(ASKED[name], *changed_at(things, change)), refused)

    def test_two_at_once(self):
        for name, (things, orders) in ORDERS.items():
            for first, then in itertools.combinations(orders, 2):
                for (change, refused), (other, other_refused) in itertools.product(first, then):
                    # What is refused first is put in last: so it stays where both change one place.
                    asked = changed_at(things, other, change)
                    with self.subTest(name=name, change=str(change)[:60], other=str(other)[:60]):
                        self.assertEqual(refusal(ASKED[name], *asked), refused)

    def test_all_at_once(self):
        for name, (things, orders) in ORDERS.items():
            for wrongs in itertools.islice(itertools.product(*orders), 0, 300, 7) if orders else ():
                asked = changed_at(things, *[change for change, refused in wrongs[::-1]])
                self.assertEqual(refusal(ASKED[name], *asked), wrongs[0][1])


class Checkers(unittest.TestCase):
    def test_what_is_told_is_let_by(self):
        for name, things, places in papers():
            self.assertIs(ASKED[name](*things), True, name)

    def test_anything(self):
        for name, things, places in papers():
            for at in places:
                for thing in others() + [0, 1, ()] + list(things):
                    with self.subTest(name=name, thing=str(thing)[:60]):
                        answer = ASKED[name](*changed_at(things, {at: thing}))
                        self.assertIs(type(answer), bool)
                        if number_kinds(thing) == number_kinds(things[at]):
                            self.assertIs(answer, True)

    def test_anything_in_all_places(self):
        for name, things, places in papers():
            for thing in others() + [0, 1, ()]:
                answer = ASKED[name](*changed_at(things, {at: thing for at in places}))
                self.assertIs(type(answer), bool)

    def test_changed_parts(self):
        for name, things, places in papers():
            for at in places:
                if isinstance(things[at], tuple):
                    for thing in changed_papers(things[at]):
                        self.assertIs(type(ASKED[name](*changed_at(things, {at: thing}))), bool)

    def test_anything_within(self):
        for name, things, places in papers():
            for at in places:
                if isinstance(things[at], tuple):
                    for part in range(len(things[at])):
                        for thing in others():
                            changed = things[at][:part] + (thing,) + things[at][part + 1:]
                            answer = ASKED[name](*changed_at(things, {at: changed}))
                            self.assertIs(answer, number_kinds(changed) == number_kinds(things[at]))


class Everywhere(unittest.TestCase):
    def each_asked(self):
        for name, (things, orders) in ORDERS.items():
            yield name, list(things)
            for wrongs in orders:
                for change, refused in wrongs:
                    yield name, changed_at(things, change)
        for name, things, places in papers():
            yield name, list(things)

    def answer(self, name, things):
        """What is told, or what is refused."""
        refused = refusal(ASKED[name], *things)
        return refused if refused is not None else number_kinds(ASKED[name](*things))

    def test_what_is_handed_in_stays(self):
        for name, things in self.each_asked():
            before = copy.deepcopy(things)
            refusal(ASKED[name], *things)
            self.assertEqual(number_kinds(things), number_kinds(before), name)

    def test_the_same_each_time(self):
        asked = list(self.each_asked())
        first = [self.answer(name, things) for name, things in asked]
        for again in range(2):
            self.assertEqual([self.answer(name, things) for name, things in asked[::-1]][::-1], first)

    def test_lists_are_built_anew(self):
        leans = ASKED["all_leans"](2)
        leans.clear()
        self.assertEqual(ASKED["all_leans"](2), [(0, 0), (0, 1), (1, 0), (1, 1)])

    def test_only_all_leans_tells_a_list(self):
        def kinds(thing):
            yield type(thing)
            if isinstance(thing, (tuple, list)):
                for part in thing:
                    yield from kinds(part)

        for name, (things, orders) in ORDERS.items():
            found = set(kinds(ASKED[name](*things)))
            self.assertEqual(list in found, name == "all_leans")
            self.assertLessEqual(found, {int, str, tuple, list, bool, type(None)})
            if bool in found:
                self.assertTrue(name.startswith("is_") or name.endswith("_holds"), name)


if __name__ == "__main__":
    unittest.main()
