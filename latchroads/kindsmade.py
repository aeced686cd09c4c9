"""Kinds that are made of others."""

from latchroads.checks import check_beside, check_train
from latchroads.comings import train_web
from latchroads.errors import TooMany
from latchroads.kinds import MOST_SETTINGS, MOST_SORTS, check_kind
from latchroads.walks import through_road


def joined_rows(kind, beside):
    """The rows of the sorts of the first kind, and, numbered on, of those of the other one."""
    rows = [tuple([(left, len(kind) + behind) for left, behind in row]) for row in beside]
    return kind + tuple(rows)


def side_by_side(kind, beside):
    """The kind with the sorts of the first kind, and, behind them, those of the other one."""
    check_kind(kind)
    check_beside(kind, beside)
    if len(kind) + len(beside) > MOST_SORTS:
        raise TooMany(MOST_SORTS)
    return joined_rows(kind, beside)


def kind_of_trains(kind, train):
    """The kind that the trains that come of a train make."""
    check_kind(kind)
    check_train(kind, train)
    _, marks, steps = train_web(kind, train, MOST_SORTS)
    return tuple([tuple(zip(left, row)) for left, row in zip(marks, steps)])


def both_through(kind, sort, number):
    """What a walker does at two latches; their settings are told by one number, before and behind."""
    many = len(kind[0])
    (first, second), (behind,) = through_road(kind, (sort,), divmod(number, many))
    return first * many + second, behind


def two_latches(kind):
    """The kind of two latches."""
    check_kind(kind)
    many = len(kind[0]) * len(kind[0])
    if many > MOST_SETTINGS:
        raise TooMany(MOST_SETTINGS)
    return tuple([tuple([both_through(kind, sort, number) for number in range(many)]) for sort in range(len(kind))])
