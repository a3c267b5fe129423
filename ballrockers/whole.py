"""Whole numbers and tuples of them, asked of anything."""


def is_whole(thing):
    """Whether the thing is a number."""
    # Python counts True and False among the ints; the program doesn't.
    return isinstance(thing, int) and not isinstance(thing, bool)


def is_whole_within(thing, low, high):
    """Whether the thing is a number from low to high."""
    return is_whole(thing) and low <= thing <= high


def is_tuple_within(thing, fewest, most):
    """Whether the thing is a tuple of fewest to most things."""
    return isinstance(thing, tuple) and fewest <= len(thing) <= most


def are_wholes_within(thing, fewest, most, low, high):
    """Whether the thing is a tuple of fewest to most numbers, each from low to high."""
    if not is_tuple_within(thing, fewest, most):
        return False
    for number in thing:
        if not is_whole_within(number, low, high):
            return False
    return True
