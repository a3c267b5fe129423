"""Boards and other things that several tests hand in."""

DOOR = (0, 0)

# All kinds of pieces, two groups, two feeders, doors that call each of them and none.
MIXED = (
    5,
    2,
    (
        (".", (0, 0), ".", (1, 1), "."),
        (">", "x", (0, 1), "x", "<"),
        ("s", "<", ".", ">", "s"),
        (">", (1, 0), "s", (1, 1), "<"),
    ),
    (1, 3),
    ((0, 0), (99, 1), (7, None), (7, 0), (50, None)),
)

# The least board there is: one column, no row, no group, one feeder.
LEAST = (1, 0, (), (0,), (DOOR,))


def plain_board(width=3, groups=2, rows=2, feeders=2):
    """A board of empty places, each bound as told, kept or not."""
    return (
        width,
        groups,
        ((".",) * width,) * rows,
        (0,) * feeders,
        (DOOR,) * width,
    )


def with_part(board, at, part):
    """The board with another thing in place of one of its five parts."""
    return board[:at] + (part,) + board[at + 1:]


def with_place(board, row, column, thing):
    """The board with another thing in one place."""
    places = board[2][row]
    changed = places[:column] + (thing,) + places[column + 1:]
    return with_part(board, 2, board[2][:row] + (changed,) + board[2][row + 1:])


def deep(levels):
    """Lists within tuples within dicts, so many deep in all."""
    thing = 0
    for level in range(levels):
        thing = ([thing], (thing,), {"in": thing})[level % 3]
    return thing


def others():
    """Things of all kinds that are no board, no row, no feeder, no door, no leans and no number within bounds."""
    return [
        None, True, False,
        -1, -(10 ** 59), 10 ** 59,
        "", ".", "0", "01", "...", "board 3 2\n",
        [], [0], [0, 0], [0, 1], [[]],
        {}, {0: 0}, {0: 0, 1: 1}, {"width": 3},
        (None,), (True,), (False, False), ((),), ("0", "0"), ([0], [0]), ((0, 0), [0, 0]),
        (None, None, None, None, None),
        deep(20), (0,) * 20000, [0] * 20000, "a" * 3000,
    ]
