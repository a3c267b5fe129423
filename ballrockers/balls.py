"""The balls of a board, by leans and feeder."""

from ballrockers.ways import come_out


class Balls:
    """The balls of one board that was looked at, with a fault or none: each falls but once, however often asked for."""

    def __init__(self, board, fault=None):
        self.board = board
        self.fault = fault
        self.outcomes = {}

    def fall(self, leans, feeder):
        """The door by which a ball comes out, NO_DOOR of one that is stuck, and the leans behind."""
        ball = (leans, feeder)
        if ball not in self.outcomes:
            self.outcomes[ball] = come_out(self.board, leans, feeder, self.fault)
        return self.outcomes[ball]


def told_by(balls, leans, row):
    """A tuple (names, leans behind) of a row of feeders' balls, one after another."""
    names = []
    for feeder in row:
        door, leans = balls.fall(leans, feeder)
        names.append(door[0])
    return tuple(names), leans
