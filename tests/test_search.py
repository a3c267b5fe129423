"""The search from place to place, and what bears its answers: over places that are plain numbers."""

import itertools
import unittest

from ballrockers.balls import Balls
from ballrockers.boards import is_some_row
from ballrockers.search import ends_by_last, goes_on_within, is_shortest_end, sought
from ballrockers.ways import come_out
from samples import MIXED, no_rows

# Many more places than a board has leans.
MANY = 5000


def onward(place, feeder):
    """Feeder 0 leads to the next place, feeder 1 back to the first; the last place ends it."""
    if feeder == 1:
        return 0
    return place + 1 if place < MANY else None


class Search(unittest.TestCase):
    def test_sought(self):
        for start in (MANY, MANY - 1, MANY - 7):
            row, rows = sought(start, 1, onward)
            self.assertEqual(row, (0,) * (MANY + 1 - start))
            self.assertEqual(rows, {place: (0,) * (place - start) for place in range(start, MANY + 1)})

    def test_none_ends(self):
        row, rows = sought(0, 2, lambda place, feeder: (place + feeder + 1) % 7)
        self.assertIsNone(row)
        self.assertEqual(rows, {0: (), 1: (0,), 2: (1,), 3: (0, 1), 4: (1, 1), 5: (0, 1, 1), 6: (1, 1, 1)})

    def test_first_rows_in_order(self):
        for steps in ((3, 5), (5, 3), (1, 1, 6), (0, 2, 4, 9)):
            row, rows = sought(0, len(steps), lambda place, feeder: (place * 2 + steps[feeder]) % 23)
            self.assertIsNone(row)
            found = {}
            for many in range(6):
                for row in itertools.product(range(len(steps)), repeat=many):
                    place = 0
                    for feeder in row:
                        place = (place * 2 + steps[feeder]) % 23
                    found.setdefault(place, row)
            short = [pair for pair in rows.items() if len(pair[1]) < 6]
            self.assertEqual(short, list(found.items()))

    def test_no_place_of_as_many_balls_as_the_row(self):
        # Feeder 0 of the first place leads on, feeder 1 ends it.
        row, rows = sought(0, 2, lambda place, feeder: None if feeder else place + 1)
        self.assertEqual((row, rows), ((1,), {0: ()}))

    def test_rows_of_more_than_two_thousand_balls(self):
        row = (0,) * (MANY + 1)
        entries = [(place, place) for place in range(MANY + 1)]
        self.assertIs(ends_by_last(0, row, onward), True)
        self.assertIs(ends_by_last(0, (0,) * 2100 + (1,) + row, onward), True)
        for other in (row[1:], row + (0,), row + (1,), row + row, ()):
            self.assertIs(ends_by_last(0, other, onward), False)
        for feeders in (1, 2):
            self.assertIs(is_shortest_end(0, row, entries, feeders, onward), True)
            self.assertIs(is_shortest_end(0, row, entries[::-1] + [(7, MANY)], feeders, onward), True)
            for at in (0, 1, 2500, MANY - 1, MANY):
                self.assertIs(is_shortest_end(0, row, entries[:at] + entries[at + 1:], feeders, onward), False)
                self.assertIs(is_shortest_end(0, row, entries[:at] + [(at, at + 1)] + entries[at + 1:], feeders, onward),
                              False)

    def test_goes_on_within(self):
        def step(place, feeder):
            return (place + 2) % 6
        self.assertIs(goes_on_within(0, [0, 2, 4], 1, step), True)
        self.assertIs(goes_on_within(0, [1, 4, 5, 3, 0, 2, 2], 3, step), True)
        for places in ([], [0], [0, 2], [2, 4], [1, 3, 5], [0, 2, 4, 1]):
            self.assertIs(goes_on_within(0, places, 1, step), False)
        self.assertIs(goes_on_within(0, [0], 1, lambda place, feeder: None), False)


class RowsAndBalls(unittest.TestCase):
    def test_some_row(self):
        for many in (1, 2, 2000, 2001, 19000):
            self.assertIs(is_some_row((0,) * many, 1), True)
            self.assertIs(is_some_row((0, 1) * many, 2), True)
            self.assertIs(is_some_row((0,) * many + (1,), 1), False)
        for thing in [()] + no_rows(2000):
            great = isinstance(thing, tuple) and len(thing) > 2000 and set(thing) <= {0, 1}
            self.assertIs(is_some_row(thing, 2), great, str(thing)[:60])

    def test_each_ball_as_by_itself(self):
        balls = Balls(MIXED)
        for again in range(2):
            for leans in ((0, 0), (0, 1), (1, 0), (1, 1)):
                for feeder in (1, 0):
                    self.assertEqual(balls.fall(leans, feeder), come_out(MIXED, leans, feeder))
        self.assertEqual(len(balls.outcomes), 8)
        self.assertIs(balls.fall((0, 1), 0), balls.fall((0, 1), 0))


if __name__ == "__main__":
    unittest.main()
