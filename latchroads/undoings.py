"""What undoes a train."""

from latchroads.checks import check_train
from latchroads.comings import MOST_TRAINS, least_marked, train_web, web_from
from latchroads.keepings import keeps, row_loses
from latchroads.kinds import check_kind, is_kind, is_row
from latchroads.walks import through_latch


def both_through(kind, beside, pair, setting):
    """Whether a train and the one behind it leave a latch unlike it was, and the pair as which they come out."""
    left, train = through_latch(kind, pair[0], setting)
    back, other = through_latch(beside, pair[1], left)
    return back != setting, (train, other)


def first_not_undone(kind, train, beside, other):
    """The least road that a train, and then one of a kind beside, does not leave as it was, or None."""
    _, marks, steps = web_from((train, other), len(kind[0]),
                               lambda pair, setting: both_through(kind, beside, pair, setting), MOST_TRAINS)
    return least_marked(marks, steps)


def row_back(row):
    """The row of pairs of a sort that undoes one; that of a sort that loses, which nothing undoes, as it is."""
    if row_loses(row):
        return row
    back = [None] * len(row)
    for setting, (left, behind) in enumerate(row):
        back[left] = (setting, behind)
    return tuple(back)


def undoing_of(kind, train):
    """Any undoing of a train, or None."""
    check_kind(kind)
    check_train(kind, train)
    train_web(kind, train, MOST_TRAINS)
    if not keeps(kind, train):
        return None
    # The last walker is undone first, each by one that goes on as it does.
    return tuple([row_back(row) for row in kind]), train[::-1]


def is_kind_and_train(kind, value):
    """Whether any value is a pair of a kind beside the given one and of a train of it."""
    if not isinstance(value, tuple) or len(value) != 2:
        return False
    beside, other = value
    return is_kind(beside) and len(beside[0]) == len(kind[0]) and is_row(other, len(beside))


def is_undoing(kind, train, value):
    """Whether any value is an undoing of a train."""
    check_kind(kind)
    check_train(kind, train)
    train_web(kind, train, MOST_TRAINS)
    if not is_kind_and_train(kind, value):
        return False
    return first_not_undone(kind, train, value[0], value[1]) is None


def undoes(kind, train, other):
    """Whether a kind with another of its trains is an undoing of the train."""
    check_kind(kind)
    check_train(kind, train)
    check_train(kind, other)
    return first_not_undone(kind, train, kind, other) is None


def not_undone(kind, train, other):
    """The least road that a train, and then the other one, does not leave as it was, or None."""
    check_kind(kind)
    check_train(kind, train)
    check_train(kind, other)
    return first_not_undone(kind, train, kind, other)
