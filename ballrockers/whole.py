"""Whole numbers and tuples of them, asked of anything."""


def is_whole(thing):
    """Whether the thing is a number."""
    # Python counts True and False among the ints; the program doesn't.
    return isinstance(thing, int) and not isinstance(thing, bool)


def is_whole_within(thing, low, high):
    """Whether the thing is a number from low to high."""
    return is_whole(thing) and low <= thing <= high


def is_from(thing, low):
    """Whether the thing is a number, low or above."""
    return is_whole(thing) and thing >= low


def is_tuple_within(thing, fewest, most):
    """Whether the thing is a tuple of fewest to most things."""
    return isinstance(thing, tuple) and fewest <= len(thing) <= most


def are_wholes_within(thing, fewest, most, low, high):
    """Whether the thing is a tuple of fewest to most numbers, each from low to high."""
    if not is_tuple_within(thing, fewest, most):
        return False
    for number in thing:
        if not is_whole_within(number, low, high):
            return False
    return True


def is_just(thing, told):
    """Whether the thing is what is told, of numbers, texts, None and tuples of these, kind by kind."""
    if isinstance(told, tuple):
        if not is_tuple_within(thing, len(told), len(told)):
            return False
        return all([is_just(part, told_part) for part, told_part in zip(thing, told)])
    # Python takes True for 1 and False for 0.
    return not isinstance(thing, bool) and thing == told
