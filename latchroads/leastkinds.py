"""Kinds that do the same, and the least of them."""

from latchroads.checks import check_beside
from latchroads.kindnames import orders_of, renamed
from latchroads.kinds import check_kind
from latchroads.kindsmade import joined_rows
from latchroads.sortlikes import row_marks


def sorts_made_one(kind, marks):
    """The kind with the least sort of each mark alone, in whose place it is named; marks are numbered as first met."""
    firsts = [marks.index(mark) for mark in range(len(set(marks)))]
    return tuple([tuple([(left, marks[behind]) for left, behind in kind[sort]]) for sort in firsts])


def least_named(kind):
    """The least kind, and what led_sorts returns, for a kind that is checked."""
    marks = row_marks(kind)
    # One sort for each class is the fewest that can do the same; only their names are free.
    fewest = sorts_made_one(kind, marks)
    settings = tuple(range(len(kind[0])))
    least, order = min([(renamed(fewest, settings, names), names) for names in orders_of(len(fewest))])
    return least, tuple([order[mark] for mark in marks])


def least_kind(kind):
    """The least kind of a kind."""
    check_kind(kind)
    least, _ = least_named(kind)
    return least


def led_sorts(kind):
    """For each sort the sort of the least kind that is alike on all roads."""
    check_kind(kind)
    _, led = least_named(kind)
    return led


def first_lone(kind, beside):
    """What lone_sort returns, for kinds that are checked."""
    marks = row_marks(joined_rows(kind, beside))
    firsts = marks[:len(kind)]
    others = marks[len(kind):]
    lone = [(0, sort) for sort, mark in enumerate(firsts) if mark not in others]
    lone = lone + [(1, sort) for sort, mark in enumerate(others) if mark not in firsts]
    return lone[0] if lone else None


def do_the_same(kind, beside):
    """Whether two kinds do the same."""
    check_kind(kind)
    check_beside(kind, beside)
    return first_lone(kind, beside) is None


def lone_sort(kind, beside):
    """The first sort of two kinds to which no sort of the other one is alike on all roads, or None."""
    check_kind(kind)
    check_beside(kind, beside)
    return first_lone(kind, beside)
