"""What made boards are put together of: rows by their pieces, digits that count, rockers that are turned at once."""


def row_of(width, pieces):
    """A row of such pieces by their columns, nothing else in it."""
    return tuple([pieces.get(column, ".") for column in range(width)])


def digit_rows(width, column, group, size, side):
    """Rows of a rocker each: to the left a ball comes to the next digit's one, to the right it comes past them all."""
    return [row_of(width, {column - at: (group + at, side)}) for at in range(size)]


def turning_rows(width, rockers):
    """Two rows: a ball that comes to one of the rockers, a dict by their columns, turns it and is in its column again.

    Each of them leads to the right when its ball comes, so none has another one just at its right.
    """
    return [row_of(width, rockers), row_of(width, {column + 1: "<" for column in rockers})]


def binary(number, size):
    """A tuple of so many digits, 0 or 1, that of 1 first; of a number below 0 those of it and 2 ** size together."""
    found = []
    for at in range(size):
        found.append(number % 2)
        number //= 2
    return tuple(found)
