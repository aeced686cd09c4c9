"""The roads that two trains leave alike."""

from latchroads.alikes import check_pair, pair_web
from latchroads.aparts import longest_walks
from latchroads.checks import check_number

MOST_LATCHES = 400


def like_steps(marks, steps):
    """For each pair the list of (setting, index of the pair behind) where it leaves the latch alike."""
    return [[(setting, to) for setting, to in enumerate(row) if not unlike[setting]]
            for unlike, row in zip(marks, steps)]


def count_like_roads(kind, train, beside, other, number):
    """How many roads of so many latches two trains leave alike."""
    check_pair(kind, train, beside, other)
    check_number(number, 0, MOST_LATCHES)
    _, marks, steps = pair_web(kind, train, beside, other)
    likes = like_steps(marks, steps)
    counts = {0: 1}
    for _ in range(number):
        longer = {}
        for at, many in counts.items():
            for _, to in likes[at]:
                longer[to] = longer.get(to, 0) + many
        counts = longer
    return sum(counts.values())


def like_road(kind, train, beside, other, number):
    """The least road of so many latches that two trains leave alike, or None."""
    check_pair(kind, train, beside, other)
    check_number(number, 0, MOST_LATCHES)
    _, marks, steps = pair_web(kind, train, beside, other)
    likes = like_steps(marks, steps)
    longest = longest_walks([[to for _, to in row] for row in likes])
    if longest[0] is not None and longest[0] < number:
        return None
    road = []
    at = 0
    for behind in range(number):
        left = number - behind - 1
        fit = [(setting, to) for setting, to in likes[at] if longest[to] is None or longest[to] >= left]
        setting, at = fit[0]
        road.append(setting)
    return tuple(road)
