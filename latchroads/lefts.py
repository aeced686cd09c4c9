"""The roads that a train leaves, of whatever roads, and the latches that stay sure."""

from latchroads.aparts import longest_walks
from latchroads.checks import check_number, check_train
from latchroads.comings import MOST_TRAINS, place_of, train_web, web_from
from latchroads.errors import TooMany
from latchroads.kinds import LONGEST, check_kind

MOST_LOTS = 500


def lots_behind(lefts, steps, lot):
    """The lots, but the empty one, that come of a lot by one latch more, one for each setting that is left."""
    behind = {}
    for at in lot:
        for left, to in zip(lefts[at], steps[at]):
            behind.setdefault(left, []).append(to)
    return [tuple(sorted(set(found))) for found in behind.values()]


def count_left(kind, train, number):
    """How many roads of so many latches are left by a train."""
    check_kind(kind)
    check_train(kind, train)
    check_number(number, 0, LONGEST)
    _, lefts, steps = train_web(kind, train, MOST_TRAINS)
    lots = [(0,)]
    places = {(0,): 0}
    ahead = {}
    counts = {0: 1}
    for _ in range(number):
        longer = {}
        for place, many in counts.items():
            if place not in ahead:
                if len(ahead) == MOST_LOTS:
                    raise TooMany(MOST_LOTS)
                found = lots_behind(lefts, steps, lots[place])
                ahead[place] = [place_of(lots, places, lot) for lot in found]
            for to in ahead[place]:
                longer[to] = longer.get(to, 0) + many
        counts = longer
    return sum(counts.values())


def both_behind(lefts, steps, pair, settings):
    """The mark and the pair of the trains behind one latch that is in one of two settings.

    The mark is None if the two leave it unlike, from which no pair comes;
    otherwise it tells whether the settings are unlike.
    """
    first, second = pair
    one, two = settings
    if lefts[first][one] != lefts[second][two]:
        return None, pair
    return one != two, (steps[first][one], steps[second][two])


def like_ways(kind, train):
    """For each pair that comes of a train and itself the list of (whether settings are unlike, index of the pair)."""
    _, lefts, steps = train_web(kind, train, MOST_TRAINS)
    many = len(kind[0])
    _, marks, ways = web_from((0, 0), many * many,
                              lambda pair, both: both_behind(lefts, steps, pair, divmod(both, many)), MOST_TRAINS)
    return [[(mark, to) for mark, to in zip(mark_row, row) if mark is not None]
            for mark_row, row in zip(marks, ways)]


def sure_latches(kind, train, number):
    """The ascending tuple of the indices of the latches, of roads of so many, that are sure."""
    check_kind(kind)
    check_train(kind, train)
    check_number(number, 0, LONGEST)
    ways = like_ways(kind, train)
    longest = longest_walks([[to for _, to in row] for row in ways])
    sure = []
    ahead = [0]
    for latch in range(number):
        rest = number - latch - 1
        open_ways = [(unlike, to) for at in ahead for unlike, to in ways[at]
                     if longest[to] is None or longest[to] >= rest]
        if not any([unlike for unlike, _ in open_ways]):
            sure.append(latch)
        ahead = sorted({to for _, to in open_ways})
    return tuple(sure)
