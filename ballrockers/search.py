"""From place to place, ball by ball: what is come to, and the shortest row of feeders whose last ball ends it.

A place is leans, or leans of several boards; behind(place, feeder) tells the place to which a ball leads, or None of a
ball that ends it.
"""


def sought(start, feeders, behind):
    """A tuple (row, rows): a shortest row whose last ball ends it, None where none does; and a dict.

    The dict tells the first row, of the fewest balls, to each place that is come to by fewer balls than the row has;
    first by how many balls it has, then as Python orders tuples. So the places are ordered, too.
    """
    rows = {start: ()}
    layer = [start]
    # All places of so many balls are gone through ahead of those of one ball more, so the first end is a nearest one.
    while layer:
        further = []
        for place in layer:
            for feeder in range(feeders):
                row = rows[place] + (feeder,)
                coming = behind(place, feeder)
                if coming is None:
                    return row, {at: rows[at] for at in rows if len(rows[at]) < len(row)}
                if coming not in rows:
                    rows[coming] = row
                    further.append(coming)
        layer = further
    return None, rows


def goes_on_within(start, places, feeders, behind):
    """Whether the start is one of the places, and each ball leads from each of them to one of them."""
    known = {place: True for place in places}
    if start not in known:
        return False
    for place in known:
        for feeder in range(feeders):
            # None, by which a ball ends it, is no place.
            if behind(place, feeder) not in known:
                return False
    return True


def is_shortest_end(start, row, entries, feeders, behind):
    """Whether the row's last ball alone ends it, and the entries (place, balls) bear that no shorter row does."""
    balls = least_balls(entries)
    if balls.get(start) != 0 or not ends_by_last(start, row, behind):
        return False
    return all([leads_on(place, balls, feeders, behind) for place in balls if balls[place] < len(row) - 1])


def least_balls(entries):
    """A dict of the least number of balls that entries (place, balls) tell of each place."""
    # An entry with more balls asks for no more than one with fewer, and bears no more.
    balls = {}
    for place, many in entries:
        balls[place] = min(many, balls.get(place, many))
    return balls


def ends_by_last(start, row, behind):
    """Whether the last ball of the row ends it, and none ahead of it."""
    place = start
    for feeder in row:
        if place is None:
            return False
        place = behind(place, feeder)
    return place is None


def leads_on(place, balls, feeders, behind):
    """Whether each ball leads from the place to one that the dict knows by at most one ball more."""
    for feeder in range(feeders):
        coming = behind(place, feeder)
        if coming not in balls or balls[coming] > balls[place] + 1:
            return False
    return True
