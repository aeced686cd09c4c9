"""The rounds of trains whose sorts leave no two settings in one."""

from latchroads.checks import check_number, check_road, check_train
from latchroads.errors import InvalidRoad, NotOneToOne, TooMany
from latchroads.keepings import keeps
from latchroads.kindnumbers import power_of
from latchroads.kinds import LONGEST, check_kind
from latchroads.walks import through_latch, through_road

MOST_ROADS = 4096


def check_one_to_one(kind, train):
    """Raises NotOneToOne for a train of whose walkers a sort comes that leaves two settings in one."""
    if not keeps(kind, train):
        raise NotOneToOne("a sort comes of the train that leaves two settings in one")


def check_few_roads(kind, latches):
    """Raises TooMany for more roads of so many latches than are gone through."""
    if power_of(len(kind[0]), latches) > MOST_ROADS:
        raise TooMany(MOST_ROADS)


def all_left(kind, train, latches):
    """For each road of so many latches, in Python's order, the index among them of the road as which it is left."""
    many = len(kind[0])
    rows = [(0, train)]
    for _ in range(latches):
        longer = []
        for ahead, out in rows:
            for setting in range(many):
                left, behind = through_latch(kind, out, setting)
                longer.append((ahead * many + left, behind))
        rows = longer
    return [left for left, _ in rows]


def rounds_seen(kind, train, latches):
    """The ascending list of the pairs (how many standings, how many rounds have so many)."""
    check_kind(kind)
    check_train(kind, train)
    check_one_to_one(kind, train)
    check_number(latches, 0, LONGEST)
    check_few_roads(kind, latches)
    lefts = all_left(kind, train, latches)
    seen = [False] * len(lefts)
    rounds = {}
    for first in range(len(lefts)):
        standings = 0
        at = first
        while not seen[at]:
            seen[at] = True
            standings += 1
            at = lefts[at]
        if standings > 0:
            rounds[standings] = rounds.get(standings, 0) + 1
    return sorted(rounds.items())


def sendings_to(kind, train, road, other):
    """The least number of sendings behind which a road is the other one, or None."""
    check_kind(kind)
    check_train(kind, train)
    check_one_to_one(kind, train)
    check_road(kind, road)
    check_road(kind, other)
    if len(other) != len(road):
        raise InvalidRoad("the roads have unlike numbers of latches")
    check_few_roads(kind, len(road))
    sendings = 0
    standing = road
    while standing != other:
        standing, _ = through_road(kind, train, standing)
        sendings += 1
        if standing == road:
            return None
    return sendings
