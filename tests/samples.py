"""Boards and other things that several tests hand in, and what they hold the program against."""

from ballrockers.errors import BoardError, Fault

DOOR = (0, 0)

# All kinds of pieces, two groups, two feeders, doors that call each of them and none.
MIXED = (
    5,
    2,
    (
        (".", (0, 0), ".", (1, 1), "."),
        (">", "x", (0, 1), "x", "<"),
        ("s", "<", ".", ">", "s"),
        (">", (1, 0), "s", (1, 1), "<"),
    ),
    (1, 3),
    ((0, 0), (99, 1), (7, None), (7, 0), (50, None)),
)

# The least board there is: one column, no row, no group, one feeder.
LEAST = (1, 0, (), (0,), (DOOR,))


def plain_board(width=3, groups=2, rows=2, feeders=2):
    """A board of empty places, each bound as told, kept or not."""
    return (
        width,
        groups,
        ((".",) * width,) * rows,
        (0,) * feeders,
        (DOOR,) * width,
    )


def with_part(board, at, part):
    """The board with another thing in place of one of its five parts."""
    return board[:at] + (part,) + board[at + 1:]


def with_place(board, row, column, thing):
    """The board with another thing in one place."""
    places = board[2][row]
    changed = places[:column] + (thing,) + places[column + 1:]
    return with_part(board, 2, board[2][:row] + (changed,) + board[2][row + 1:])


def drawn(*lines, width=1, groups=None, feeders=(0,), doors=None):
    """A board of lines of signs; a to h rockers of side 0, A to H of side 1; each door's name is its column."""
    rows = tuple(tuple(drawn_piece(sign) for sign in line) for line in lines)
    if rows:
        width = len(rows[0])
    if groups is None:
        groups = max([piece[0] + 1 for places in rows for piece in places if isinstance(piece, tuple)], default=0)
    if doors is None:
        doors = tuple((column, 0) for column in range(width))
    return (width, groups, rows, feeders, doors)


def drawn_piece(sign):
    """The piece that a sign shows."""
    if sign in "abcdefgh":
        return ("abcdefgh".index(sign), 0)
    if sign in "ABCDEFGH":
        return ("ABCDEFGH".index(sign), 1)
    return sign


def number_of(digits):
    """The number whose digits these are, that of 1 first."""
    return sum(digit * 2 ** at for at, digit in enumerate(digits))


def digits_of(number, size):
    """So many digits of the number, that of 1 first."""
    return tuple(number // 2 ** at % 2 for at in range(size))


def chain(groups, blind=False, over=1):
    """A chain of rockers that counts up, the digit of 1 first; a ball by which all become 0 comes out by over's name.

    Or, blind, it is stuck in the last row; all others come out by the name 0.
    """
    width = groups + 3
    column = groups + 1
    rows = []
    for group in range(groups):
        places = ["."] * width
        places[column - group] = (group, 1)
        rows.append(tuple(places))
    if blind:
        rows.append((".", "s") + (".",) * (width - 2))
    doors = ((0, 0), (over, 0)) + ((0, 0),) * (width - 2)
    return (width, groups, tuple(rows), (column,), doors)


def counting_by_four(over_call=None):
    """Eight groups, four feeders: balls of the last one count, each other one's door calls the next feeder.

    So a count takes 1,024 balls; the last one's door calls the told feeder.
    """
    width, groups, rows, feeders, doors = chain(8)
    rows = tuple(places + (".",) * 3 for places in rows)
    doors = doors[:1] + ((1, over_call),) + doors[2:] + ((7, 1), (8, 2), (9, 3))
    return (width + 3, groups, rows, (width, width + 1, width + 2) + feeders, doors)


def rolled_board(dice, width=None, groups=None, rows=None, feeders=None):
    """A board by dice, of the sizes that are told."""
    width = dice.randint(1, 9) if width is None else width
    groups = dice.randint(0, 4) if groups is None else groups
    rows = dice.randint(0, 9) if rows is None else rows
    feeders = dice.randint(1, 4) if feeders is None else feeders
    calls = [None] + list(range(feeders)) * 3
    return (
        width,
        groups,
        tuple(tuple(rolled_piece(dice, column, width, groups) for column in range(width)) for row in range(rows)),
        tuple(dice.randrange(width) for feeder in range(feeders)),
        tuple((dice.choice((0, 1, 2, 99)), dice.choice(calls)) for column in range(width)),
    )


def rolled_turning_board(dice, groups, feeders, blind=0):
    """A board by dice with many rockers, and so many blind places, which just some balls come to."""
    width = dice.randint(5, 9)
    board = rolled_board(dice, width=width, groups=groups, rows=0, feeders=feeders)
    pieces = [(group, side) for group in range(groups) for side in (0, 1)]
    pieces += [".", "x"] * max(1, groups // 2)
    rows = [
        (".",) + tuple(dice.choice(pieces) for column in range(width - 2)) + (".",) for row in range(dice.randint(2, 6))
    ]
    board = with_part(board, 2, tuple(rows))
    for place in range(blind):
        board = with_place(board, len(rows) - 1, dice.randrange(width), "s")
    return board


def without_blind_places(board):
    """The board with nothing in the places of all blind ones."""
    return with_part(board, 2, tuple(tuple("." if piece == "s" else piece for piece in places) for places in board[2]))


def rolled_piece(dice, column, width, groups):
    """A piece by dice that may stand in the column."""
    pieces = [".", "."]
    if dice.random() < 0.1:
        pieces = ["s"]
    elif 0 < column < width - 1:
        pieces += ["<", ">", "x", "x"] + [(group, side) for group in range(groups) for side in (0, 1)] * 2
    elif column > 0:
        pieces += ["<"]
    elif column < width - 1:
        pieces += [">"]
    return dice.choice(pieces)


def rolled_leans(dice, board):
    """Leans of the board by dice."""
    return tuple(dice.randint(0, 1) for group in range(board[1]))


# [9] once more, by where a ball came from, to hold the program against it.
CROSSED = {"above": "down", "left": "right", "right": "left"}
CAME = {"down": "above", "right": "left", "left": "right"}
STEP = {"down": 0, "right": 1, "left": -1}


def model_step(piece, came, leaning, fault=None):
    """To which side a ball goes from a piece, None in a blind place; turns a rocker's group in the dict [9], [29]."""
    if isinstance(piece, tuple):
        group, side = piece
        goes = "left" if leaning[group] == side else "right"
        if fault is None or group != fault:
            leaning[group] = {0: 1, 1: 0}[leaning[group]]
        return goes
    return {".": "down", "<": "left", ">": "right", "x": CROSSED[came], "s": None}[piece]


def model_way(board, leans, feeder, fault=None):
    """What way tells; with a fault all groups that were met are told as turned."""
    leaning = dict(enumerate(leans))
    columns, turned, came = [board[3][feeder]], [], "above"
    for places in board[2]:
        piece = places[columns[-1]]
        goes = model_step(piece, came, leaning, fault)
        if goes is None:
            break
        if isinstance(piece, tuple):
            turned.append(piece[0])
        columns.append(columns[-1] + STEP[goes])
        came = CAME[goes]
    return (tuple(columns), tuple(turned), tuple(leaning.values()))


def model_ball(board, leans, feeder, fault=None):
    """A ball's name, the feeder that is called, and the leans behind; None and None of a ball that is stuck."""
    columns, turned, behind = model_way(board, leans, feeder, fault)
    if len(columns) == len(board[2]) + 1:
        return board[4][columns[-1]] + (behind,)
    return (None, None, behind)


def model_is_leans(board, thing):
    """Whether the thing is leans of the board, kinds and all."""
    return type(thing) is tuple and len(thing) == board[1] and all(type(lean) is int and lean in (0, 1) for lean in thing)


def model_told(board, leans, row, fault=None):
    """What told tells, or broken."""
    names = ()
    for feeder in row:
        name, call, leans = model_ball(board, leans, feeder, fault)
        names += (name,)
    return (names, leans)


def model_called(board, stand, most):
    """What called tells."""
    leans, feeder = stand
    names = ()
    for ball in range(most):
        if feeder is None:
            break
        name, feeder, leans = model_ball(board, leans, feeder)
        names += (name,)
    return (names, (leans, feeder))


def model_at_once(board, leans, row, beat):
    """What at_once tells, beat after beat."""
    leaning = dict(enumerate(leans))
    names = [None] * len(row)
    on_board, now = [], 0
    while on_board or now <= beat * len(row):
        if now % beat == 0 and now // beat < len(row):
            on_board.append([now // beat, 0, board[3][row[now // beat]], "above"])
        staying = []
        for ball, deep, column, came in on_board:
            if deep == len(board[2]):
                names[ball] = board[4][column][0]
                continue
            goes = model_step(board[2][deep][column], came, leaning)
            if goes is not None:
                staying.append([ball, deep + 1, column + STEP[goes], CAME[goes]])
        on_board = staying
        now += 1
    return (tuple(names), tuple(leaning.values()))


def number_kinds(thing):
    """The thing with each part's kind beside it, so that True is unlike 1 and a list unlike a tuple."""
    if isinstance(thing, (tuple, list)):
        return (type(thing), [number_kinds(part) for part in thing])
    return (type(thing), thing)


def changed_papers(paper):
    """A list of things of almost the paper's form, each unlike it in one part."""
    found = [paper + (0,), paper + (None,), paper[:-1], paper[1:], paper + paper, paper[::-1], list(paper)]
    for at, part in enumerate(paper):
        others_of_part = changed_papers(part) if isinstance(part, tuple) else changed_numbers(part)
        found += [paper[:at] + (other,) + paper[at + 1:] for other in others_of_part]
        found.append(paper[:at] + paper[at + 1:])
        found.append(paper[:at] + (part, part) + paper[at + 1:])
        for further in range(at + 1, len(paper)):
            exchanged = list(paper)
            exchanged[at], exchanged[further] = exchanged[further], exchanged[at]
            found.append(tuple(exchanged))
    kinds = number_kinds(paper)
    return [other for other in found if number_kinds(other) != kinds]


def changed_numbers(number):
    """Things that are unlike a number, a text or None, and some almost like it."""
    if number is None:
        return [0, 1, False, (), "None"]
    if isinstance(number, str):
        return [number + "s", number[1:], number.upper(), "", (number,), [number], None, 0, True, "safe", "stuck"]
    return [number + 1, number - 1, -number - 1, str(number), (number,), [number], None, 10 ** 59, bool(number)]


def kinds_changed(thing):
    """The thing with a list in the place of a tuple, or a truth in that of a number that is like it."""
    if isinstance(thing, tuple):
        yield list(thing)
        for at, part in enumerate(thing):
            for changed in kinds_changed(part):
                yield thing[:at] + (changed,) + thing[at + 1:]
    elif thing in (0, 1):
        yield bool(thing)


def deep(levels):
    """Lists within tuples within dicts, so many deep in all."""
    thing = 0
    for level in range(levels):
        thing = ([thing], (thing,), {"in": thing})[level % 3]
    return thing


def others():
    """Things of all kinds that are no board, no row, no feeder, no door, no leans and no number within bounds."""
    return [
        None, True, False,
        -1, -(10 ** 59), 10 ** 59,
        "", ".", "0", "01", "...", "board 3 2\n",
        [], [0], [0, 0], [0, 1], [[]],
        {}, {0: 0}, {0: 0, 1: 1}, {"width": 3},
        (None,), (True,), (False, False), ((),), ("0", "0"), ([0], [0]), ((0, 0), [0, 0]),
        (None, None, None, None, None),
        deep(20), (0,) * 20000, [0] * 20000, "a" * 3000,
    ]


# A board but for one place, its row and column at hand.
FAULTY = with_place(MIXED, 1, 2, (0, True))
FAULTY_AT = (1, 2)


def no_boards():
    """Things that are no board, some of them almost MIXED."""
    return others() + [
        0, (), MIXED[:4], MIXED + (0,), list(MIXED), dict(enumerate(MIXED)), with_part(FAULTY, 4, ()),
        with_part(MIXED, 0, True), with_part(MIXED, 1, 9), with_part(MIXED, 2, list(MIXED[2])),
        with_part(MIXED, 3, (1, True)), with_part(MIXED, 4, list(MIXED[4])),
    ]


def no_leans():
    """Things that aren't leans of MIXED, nor of a board without a group."""
    return others() + [
        0, 1, (0,), (1,), (0, 0, 0), (0, 2), (2, 0), (0, -1), (True, 0), (0, False), (0, None), (0, "1"), [0, 1],
        ((0, 1), 0), ((0, 1), None),
    ]


def no_feeders():
    """Things that aren't the number of one of MIXED's two feeders."""
    return others() + [2, 3, 4, (), (0,), (0, 1)]


def no_stands():
    """Things that are no stand of MIXED."""
    found = [0, (), (0, 1), ((0, 1),), ((0, 1), 0, 0), [(0, 1), 0], (0, (0, 1)), {(0, 1): 0}, ((0, 1), (0,))]
    found += [(leans, feeder) for leans in no_leans() for feeder in (None, 0)]
    found += [((0, 1), feeder) for feeder in no_feeders() if feeder is not None]
    return others() + found


def no_rows(most):
    """Things that are no row of at most so many numbers of MIXED's two feeders."""
    found = [
        0, 1, (2,), (0, 2), (-1,), (0, -1, 0), (0, True), (False,), (None, 0), (0, None), ((0,),), ([0],), ("0",),
        (0, "1"), [0, 1, 0], {0: 0, 1: 1}, "0101", (0,) * (most + 1), (1,) * (most + 2), (0,) * most + (None,),
        (0,) * (most - 1) + (2,), (10 ** 59,), (0, (), 1), [0] * most,
    ]
    return others() + found


def no_numbers(low, high):
    """Things that are no number from low to high."""
    return [thing for thing in others() if type(thing) is not int or not low <= thing <= high] + [
        low - 1, high + 1, high + 2, high * 10, -high - 1, str(low), str(high), (low,), [high], {low: high}, (), ((),),
    ]


def refusal(ask, *things):
    """The class of the refusal, None where nothing is refused; of Fault with its row and column."""
    try:
        ask(*things)
    except Fault as fault:
        return (Fault, fault.row, fault.column)
    except BoardError as error:
        return type(error)
    return None
