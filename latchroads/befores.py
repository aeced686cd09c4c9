"""The roads that come before a road, for a train."""

from latchroads.checks import check_road, check_train
from latchroads.comings import MOST_TRAINS, train_web
from latchroads.kinds import check_kind


def counts_before(kind, train, road):
    """For each number of first latches how many roads come before these, by the index of the train behind them.

    Told are this list, and for each train's index, and each setting left, the
    list of the pairs (setting, index of the train behind the latch) that lead there.
    """
    _, lefts, steps = train_web(kind, train, MOST_TRAINS)
    settings = list(range(len(kind[0])))
    ways = [[[(setting, row[setting]) for setting in settings if left_row[setting] == left] for left in settings]
            for left_row, row in zip(lefts, steps)]
    counts = [{0: 1}]
    for left_latch in road:
        longer = {}
        for at, many in counts[-1].items():
            for _, to in ways[at][left_latch]:
                longer[to] = longer.get(to, 0) + many
        counts.append(longer)
    return counts, ways


def ways_before(kind, train, road):
    """For each latch the ways through it of the roads that come before a road, or None if there are none.

    The ways are told by the index of the train ahead of the latch: the list of
    the pairs (setting, index of the train behind it).
    """
    counts, ways = counts_before(kind, train, road)
    goals = counts[-1]
    if not goals:
        return None
    kept = []
    for latch in range(len(road) - 1, -1, -1):
        fit = {}
        for at in counts[latch]:
            leading = [(setting, to) for setting, to in ways[at][road[latch]] if to in goals]
            if leading:
                fit[at] = leading
        kept.append(fit)
        goals = fit
    return kept[::-1]


def count_before(kind, train, road):
    """How many roads come before a road."""
    check_kind(kind)
    check_train(kind, train)
    check_road(kind, road)
    counts, _ = counts_before(kind, train, road)
    return sum(counts[-1].values())


def least_before(kind, train, road):
    """The least road that comes before a road, or None."""
    check_kind(kind)
    check_train(kind, train)
    check_road(kind, road)
    ways = ways_before(kind, train, road)
    if ways is None:
        return None
    at = 0
    before = []
    for fit in ways:
        setting, at = fit[at][0]
        before.append(setting)
    return tuple(before)


def sure_before(kind, train, road):
    """For each latch the setting in which all roads that come before have it, or None; None if none comes before."""
    check_kind(kind)
    check_train(kind, train)
    check_road(kind, road)
    ways = ways_before(kind, train, road)
    if ways is None:
        return None
    settings = [sorted({setting for at in fit for setting, _ in fit[at]}) for fit in ways]
    return tuple([found[0] if len(found) == 1 else None for found in settings])
