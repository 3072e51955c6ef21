"""Checks of plain values, and small steps with them, that the modules share."""

from purseahead.errors import TooMany


def is_whole(value):
    """Whether a value is a whole number; True and False are none."""
    return isinstance(value, int) and not isinstance(value, bool)


def is_within(value, least, most):
    return is_whole(value) and least <= value <= most


def is_sequence(value):
    return isinstance(value, (list, tuple))


def is_row(value, count):
    """Whether a value is a sequence of just that many items."""
    return is_sequence(value) and len(value) == count


def is_whole_row(value, count):
    """Whether a value is a sequence of just that many whole numbers, of any size."""
    return is_row(value, count) and all([is_whole(item) for item in value])


def is_whole_tuple(value, count):
    return isinstance(value, tuple) and is_whole_row(value, count)


def first_outside(items, least, most):
    """The index of the first item that is no whole number from least to most, or None."""
    for index, item in enumerate(items):
        if not is_within(item, least, most):
            return index
    return None


def first_misfit(value, count, least, most):
    """None for a sequence of that many such numbers, 0 for another length, else the first wrong item."""
    if not is_row(value, count):
        return 0
    return first_outside(value, least, most)


def check_many(count, most):
    """Raise TooMany if a count is above the most."""
    if count > most:
        raise TooMany(count)


def replaced(items, index, item):
    """The tuple with another item in one place."""
    return (*items[:index], item, *items[index + 1:])
