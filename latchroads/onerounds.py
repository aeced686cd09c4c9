"""Turning trains that bring roads through all their standings in one round."""

from math import gcd

from latchroads.checks import check_number, check_train
from latchroads.comings import sorts_coming
from latchroads.kindnumbers import power_of
from latchroads.kinds import LONGEST, check_kind
from latchroads.turnsums import check_turning, counts_told, sum_of


def short_place(kind, train):
    """The short depth and the sum there, of a turning train, or None."""
    sorts = sorts_coming(kind, train)
    # Behind the depths that are told all counts come again, and their sums with them.
    told, _ = counts_told(kind, train)
    for depth, counts in enumerate(told):
        found = sum_of(kind, sorts, counts)
        if gcd(found, len(kind[0])) != 1:
            return depth, found
    return None


def short_depth(kind, train):
    """The short depth of a turning train, or None."""
    check_kind(kind)
    check_train(kind, train)
    check_turning(kind, train)
    place = short_place(kind, train)
    if place is None:
        return None
    return place[0]


def rounds_told(kind, train, latches):
    """How many rounds there are of roads of so many latches, and how many standings each has, or None."""
    check_kind(kind)
    check_train(kind, train)
    check_turning(kind, train)
    check_number(latches, 0, LONGEST)
    many = len(kind[0])
    place = short_place(kind, train)
    if place is None or latches <= place[0]:
        return 1, power_of(many, latches)
    depth, found = place
    if latches > depth + 1:
        return None
    # One round of the latches ahead turns the last latch by the sum at its
    # depth, so this takes as many of them as the part not common tells.
    common = gcd(found, many)
    return common, power_of(many, depth) * (many // common)
