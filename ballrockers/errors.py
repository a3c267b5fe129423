"""The refusals of the program, one class for each."""


class BoardError(ValueError):
    """Stands above all refusals."""


class NoBoard(BoardError):
    """What should be a board is none, whatever its places hold."""


class Fault(BoardError):
    """A place of a board holds no piece, or one that mustn't stand there."""

    def __init__(self, row, column):
        self.row = row
        self.column = column


class NoLeans(BoardError):
    """What should be leans of the board is none."""


class NoStand(BoardError):
    """What should be a stand of the board is none."""


class NoFeeder(BoardError):
    """What should be the number of a feeder is none."""


class NoRow(BoardError):
    """What should be a row of feeders' numbers is none."""


class NoNumber(BoardError):
    """What should be a number within bounds is none."""


class NoFit(BoardError):
    """Two boards don't go together."""


class TooGreat(BoardError):
    """A board is greater than may be asked for, or would become so."""


class NoMachine(BoardError):
    """What should be a machine is none, or there is none to be told."""


class NoWord(BoardError):
    """What should be a word of names is none."""


class NoFault(BoardError):
    """What should be a fault of the board's rockers is none."""


class NoNames(BoardError):
    """What should be the answers to rows is none."""


class NoText(BoardError):
    """A text shows no board."""


class NoSaying(BoardError):
    """The desk knows no such row."""


class NoName(BoardError):
    """The desk keeps nothing by this name."""
