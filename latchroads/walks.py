"""Trains that go through roads."""

from latchroads.checks import check_road, check_setting, check_train
from latchroads.kinds import check_kind


def through_latch(kind, train, setting):
    """What passed_latch returns, for arguments that are checked."""
    out = []
    for sort in train:
        setting, behind = kind[sort][setting]
        out.append(behind)
    return setting, tuple(out)


def through_road(kind, train, road):
    """What passed returns, for arguments that are checked."""
    left = []
    for setting in road:
        setting_left, train = through_latch(kind, train, setting)
        left.append(setting_left)
    return tuple(left), train


def passed(kind, train, road):
    """The road as a train leaves it, and the train as which it comes out."""
    check_kind(kind)
    check_train(kind, train)
    check_road(kind, road)
    return through_road(kind, train, road)


def passed_latch(kind, train, setting):
    """The setting in which a train leaves one latch, and the train as which it comes out."""
    check_kind(kind)
    check_train(kind, train)
    check_setting(kind, setting)
    return through_latch(kind, train, setting)


def steps_of(kind, train, road):
    """The list of all steps, walker by walker, and for each latch by latch."""
    check_kind(kind)
    check_train(kind, train)
    check_road(kind, road)
    steps = []
    standing = list(road)
    for walker, first in enumerate(train):
        sort = first
        for latch in range(len(road)):
            setting = standing[latch]
            left, behind = kind[sort][setting]
            steps.append((walker, latch, sort, setting, left, behind))
            standing[latch] = left
            sort = behind
    return steps
