"""Sorts that leave roads alike."""

from latchroads.alikes import least_parting
from latchroads.checks import check_number, check_sort
from latchroads.kinds import check_kind


def settings_left(rows):
    """For each row of pairs the tuple of the settings left."""
    return [tuple([left for left, _ in row]) for row in rows]


def sorts_behind(rows):
    """For each row of pairs the tuple of the sorts behind the latch."""
    return [tuple([behind for _, behind in row]) for row in rows]


def finer_marks(marks, leaves, steps):
    """Marks that are alike for what is alike on roads of one latch more than by the given marks.

    Marks are numbered as they are first met, so marks that stay as they are stay so for good.
    """
    numbers = {}
    finer = []
    for left, row in zip(leaves, steps):
        key = (left, tuple([marks[to] for to in row]))
        finer.append(numbers.setdefault(key, len(numbers)))
    return finer


def marks_at(leaves, steps, number):
    """Marks that are alike for what is alike on roads of so many latches."""
    marks = [0] * len(steps)
    for _ in range(number):
        marks = finer_marks(marks, leaves, steps)
    return marks


def lasting_marks(leaves, steps):
    """Marks that are alike for what is alike on all roads, and the least number of latches that tells them."""
    marks = [0] * len(steps)
    finer = finer_marks(marks, leaves, steps)
    latches = 0
    while finer != marks:
        marks = finer
        finer = finer_marks(marks, leaves, steps)
        latches += 1
    return marks, latches


def row_marks(rows):
    """Marks that are alike for the sorts, each told by a row of pairs, that are alike on all roads."""
    marks, _ = lasting_marks(settings_left(rows), sorts_behind(rows))
    return marks


def classes_by(marks, members):
    """The list of the tuples of the members that have like marks."""
    classes = {}
    for mark, member in zip(marks, members):
        classes.setdefault(mark, []).append(member)
    return [tuple(found) for found in classes.values()]


def sort_classes(kind, most):
    """The classes of the sorts that are alike on all roads of at most so many latches."""
    check_kind(kind)
    check_number(most, 0, None)
    # Roads of as many latches as there are sorts tell no more than shorter ones.
    marks = marks_at(settings_left(kind), sorts_behind(kind), min(most, len(kind)))
    return classes_by(marks, list(range(len(kind))))


def all_classes(kind):
    """The classes of the sorts that are alike on all roads."""
    check_kind(kind)
    return classes_by(row_marks(kind), list(range(len(kind))))


def alike_from(kind):
    """The least number of latches for which sort_classes returns what all_classes does."""
    check_kind(kind)
    _, latches = lasting_marks(settings_left(kind), sorts_behind(kind))
    return latches


def sort_road(kind, one, two):
    """The least road that two sorts leave unlike, or None."""
    check_kind(kind)
    check_sort(kind, one)
    check_sort(kind, two)
    return least_parting(kind, (one,), kind, (two,))
