"""Lots of trains, and which trains of them are alike."""

from latchroads.checks import FEW_WALKERS, check_number
from latchroads.comings import MOST_TRAINS, web_from_all
from latchroads.errors import InvalidLot
from latchroads.kinds import LONGEST, check_kind, is_row
from latchroads.sortlikes import classes_by, finer_marks, lasting_marks, marks_at
from latchroads.walks import through_latch

MOST_IN_LOT = 12


def check_lot(kind, lot):
    """Raises InvalidLot for what is no lot of trains of the kind."""
    if not isinstance(lot, tuple) or not 1 <= len(lot) <= MOST_IN_LOT:
        raise InvalidLot("this is no tuple of so many trains")
    if not all([is_row(train, len(kind)) and len(train) <= FEW_WALKERS for train in lot]):
        raise InvalidLot("this is no lot of short trains of the kind")
    if len(set(lot)) < len(lot):
        raise InvalidLot("a train stands in the lot twice")


def lot_web(kind, trains):
    """The web of all trains that come of some unlike ones; these stand first, the marks are the settings left."""
    return web_from_all(trains, len(kind[0]), lambda state, setting: through_latch(kind, state, setting), MOST_TRAINS)


def alike_marks(kind, trains):
    """Marks of some unlike trains that are alike for those that are alike."""
    _, lefts, steps = lot_web(kind, trains)
    marks, _ = lasting_marks(lefts, steps)
    return marks[:len(trains)]


def two_alike(kind, train, other):
    """Whether two trains are alike."""
    if train == other:
        # Too many trains may come of it all the same.
        lot_web(kind, (train,))
        return True
    marks = alike_marks(kind, (train, other))
    return marks[0] == marks[1]


def lot_classes(lot, marks):
    """The ascending list of the classes of the trains of a lot, whose marks stand first."""
    rows = sorted(list(zip(lot, marks)))
    return classes_by([mark for _, mark in rows], [train for train, _ in rows])


def classes_at(kind, lot, number):
    """The ascending list of the classes of the trains of a lot that are alike at a number."""
    check_kind(kind)
    check_lot(kind, lot)
    check_number(number, 0, LONGEST)
    _, lefts, steps = lot_web(kind, lot)
    return lot_classes(lot, marks_at(lefts, steps, number))


def number_apart(kind, lot):
    """The least number at which only trains of a lot that are alike are alike."""
    check_kind(kind)
    check_lot(kind, lot)
    _, lefts, steps = lot_web(kind, lot)
    lasting, _ = lasting_marks(lefts, steps)
    wanted = lot_classes(lot, lasting)
    marks = marks_at(lefts, steps, 0)
    number = 0
    while lot_classes(lot, marks) != wanted:
        marks = finer_marks(marks, lefts, steps)
        number += 1
    return number
