"""The balls of a board, by leans and feeder."""

from ballrockers.ways import come_out


class Balls:
    """The balls of one board that was looked at: each falls but once, however often it is asked for."""

    def __init__(self, board):
        self.board = board
        self.outcomes = {}

    def fall(self, leans, feeder):
        """The door by which a ball comes out, NO_DOOR of one that is stuck, and the leans behind."""
        ball = (leans, feeder)
        if ball not in self.outcomes:
            self.outcomes[ball] = come_out(self.board, leans, feeder)
        return self.outcomes[ball]
