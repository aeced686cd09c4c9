"""Kinds of latches, their trains and their roads."""

from latchroads.errors import InvalidKind

MOST_SORTS = 6
MOST_SETTINGS = 6
LONGEST = 60


def is_integer(value):
    """Whether any value is an integer; True and False are none."""
    return isinstance(value, int) and not isinstance(value, bool)


def is_index(value, many):
    """Whether any value is an index of so many things."""
    return is_integer(value) and 0 <= value < many


def is_row(value, many):
    """Whether any value is a tuple of 0 to 60 indices of so many things."""
    if not isinstance(value, tuple) or len(value) > LONGEST:
        return False
    return all([is_index(item, many) for item in value])


def all_rows(below, many):
    """The list of all tuples of so many integers, each from 0 on below a number, ascending."""
    rows = [()]
    for _ in range(many):
        rows = [(*row, item) for row in rows for item in range(below)]
    return rows


def is_pair(value, settings, sorts):
    """Whether any value is a pair of one of so many settings and one of so many sorts."""
    if not isinstance(value, tuple) or len(value) != 2:
        return False
    return is_index(value[0], settings) and is_index(value[1], sorts)


def is_sort_row(value, settings, sorts):
    """Whether any value tells, for each of so many settings, what a walker of one sort does."""
    if not isinstance(value, tuple) or len(value) != settings:
        return False
    return all([is_pair(pair, settings, sorts) for pair in value])


def is_kind(value):
    """Whether any value is a kind."""
    if not isinstance(value, tuple) or not 1 <= len(value) <= MOST_SORTS:
        return False
    if not isinstance(value[0], tuple) or not 1 <= len(value[0]) <= MOST_SETTINGS:
        return False
    return all([is_sort_row(row, len(value[0]), len(value)) for row in value])


def check_kind(kind):
    """Raises InvalidKind for what is no kind."""
    if not is_kind(kind):
        raise InvalidKind("this is no kind")


def is_train(kind, value):
    """Whether any value is a train of a kind."""
    check_kind(kind)
    return is_row(value, len(kind))


def is_road(kind, value):
    """Whether any value is a road of a kind."""
    check_kind(kind)
    return is_row(value, len(kind[0]))
