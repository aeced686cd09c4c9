"""How many more latches one train changes than another one."""

from latchroads.changes import MOST_IN_WEB
from latchroads.checks import check_train
from latchroads.comings import web_from
from latchroads.kinds import check_kind
from latchroads.shares import greatest_sums
from latchroads.walks import through_latch


def change_through(kind, train, setting):
    """1 if a train changes a latch, otherwise 0, and the train as which it comes out."""
    left, out = through_latch(kind, train, setting)
    return 1 if left != setting else 0, out


def ahead_through(kind, pair, setting):
    """By how much the one of a pair of trains changes a latch more, and the pair as which they come out."""
    change, train = change_through(kind, pair[0], setting)
    other_change, other = change_through(kind, pair[1], setting)
    return change - other_change, (train, other)


def most_ahead(kind, train, other):
    """The greatest number by which a train changes more latches of a road than the other one, or None."""
    check_kind(kind)
    check_train(kind, train)
    check_train(kind, other)
    _, marks, steps = web_from((train, other), len(kind[0]),
                               lambda pair, setting: ahead_through(kind, pair, setting), MOST_IN_WEB)
    sums = greatest_sums([list(zip(row, weights)) for row, weights in zip(steps, marks)])
    if sums is None:
        return None
    return max(sums)
