"""The roads out of which a train comes as another one."""

from latchroads.checks import check_few_walkers, check_number
from latchroads.comings import MOST_TRAINS, train_web
from latchroads.kinds import LONGEST, check_kind


def check_letting(kind, train, other, latches):
    """Checks the arguments of the functions of this module."""
    check_kind(kind)
    check_few_walkers(kind, train)
    check_few_walkers(kind, other)
    check_number(latches, 0, LONGEST)


def counts_into(kind, train, other, latches):
    """The steps of a train's web, and, for 0 latches and on, to so many, how many roads lead to the other train.

    These are counted for each train that comes, by its index.
    """
    trains, _, steps = train_web(kind, train, MOST_TRAINS)
    counts = [[1 if out == other else 0 for out in trains]]
    for _ in range(latches):
        counts.append([sum([counts[-1][to] for to in row]) for row in steps])
    return steps, counts


def count_letting(kind, train, other, latches):
    """Out of how many roads of so many latches a train comes as the other one."""
    check_letting(kind, train, other, latches)
    _, counts = counts_into(kind, train, other, latches)
    return counts[latches][0]


def letting_road(kind, train, other, latches):
    """The first road of so many latches, in Python's order, out of which a train comes as the other one, or None."""
    check_letting(kind, train, other, latches)
    steps, counts = counts_into(kind, train, other, latches)
    if counts[latches][0] == 0:
        return None
    road = []
    at = 0
    for rest in range(latches - 1, -1, -1):
        fit = [(setting, to) for setting, to in enumerate(steps[at]) if counts[rest][to] > 0]
        setting, at = fit[0]
        road.append(setting)
    return tuple(road)
