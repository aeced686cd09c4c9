"""Trains, of one kind or of two, that leave all roads alike."""

from latchroads.checks import check_beside, check_train
from latchroads.comings import least_marked, web_from
from latchroads.kinds import check_kind, is_row
from latchroads.walks import through_latch

MOST_PAIRS = 1000


def check_pair(kind, train, beside, other):
    """Checks two kinds that are beside one another, and a train of each."""
    check_kind(kind)
    check_train(kind, train)
    check_beside(kind, beside)
    check_train(beside, other)


def pair_through(kind, beside, pair, setting):
    """Whether a pair is unlike in a setting, and the pair as which it comes out of the latch."""
    left, train = through_latch(kind, pair[0], setting)
    other_left, other = through_latch(beside, pair[1], setting)
    return left != other_left, (train, other)


def pair_web(kind, train, beside, other):
    """The web of all pairs that come of two trains; the marks tell where they are unlike."""
    first = (train, other)
    settings = len(kind[0])
    return web_from(first, settings, lambda pair, setting: pair_through(kind, beside, pair, setting), MOST_PAIRS)


def least_parting(kind, train, beside, other):
    """What parting_road returns, for arguments that are checked."""
    _, marks, steps = pair_web(kind, train, beside, other)
    return least_marked(marks, steps)


def pairs_of(kind, train, beside, other):
    """The tuple of the pairs that come of the pair of two trains, as they are met."""
    check_pair(kind, train, beside, other)
    pairs, _, _ = pair_web(kind, train, beside, other)
    return tuple(pairs)


def are_alike(kind, train, beside, other):
    """Whether two trains leave all roads alike."""
    check_pair(kind, train, beside, other)
    return least_parting(kind, train, beside, other) is None


def alike_lot(kind, train, beside, other):
    """The closed lot of all pairs that come of that of two trains, or None."""
    check_pair(kind, train, beside, other)
    pairs, marks, _ = pair_web(kind, train, beside, other)
    if any([True in row for row in marks]):
        return None
    return tuple(sorted(pairs))


def parting_road(kind, train, beside, other):
    """The least road that two trains leave unlike, or None."""
    check_pair(kind, train, beside, other)
    return least_parting(kind, train, beside, other)


def is_train_pair(kind, beside, value):
    """Whether any value is a pair of a train of the one kind and of one of the other."""
    if not isinstance(value, tuple) or len(value) != 2:
        return False
    return is_row(value[0], len(kind)) and is_row(value[1], len(beside))


def is_ascending(rows):
    """Whether tuples stand in Python's order, none of them twice."""
    return all([rows[at] < rows[at + 1] for at in range(len(rows) - 1)])


def is_closed(pairs, many, passing):
    """Whether no pair is unlike by one of so many steps, and each one that comes of one by a step is there."""
    there = {pair: True for pair in pairs}
    for pair in pairs:
        for step in range(many):
            unlike, out = passing(pair, step)
            if unlike or out not in there:
                return False
    return True


def is_closed_lot(kind, beside, value):
    """Whether any value is a closed lot of two kinds."""
    check_kind(kind)
    check_beside(kind, beside)
    if not isinstance(value, tuple) or len(value) > MOST_PAIRS:
        return False
    if not all([is_train_pair(kind, beside, pair) for pair in value]):
        return False
    if not is_ascending(value):
        return False
    return is_closed(value, len(kind[0]), lambda pair, setting: pair_through(kind, beside, pair, setting))
