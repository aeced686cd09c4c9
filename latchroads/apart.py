"""Trains that tell endless roads apart."""

from latchroads.alikes import is_ascending
from latchroads.aparts import longest_walks, way_into_ring
from latchroads.checks import check_few_walkers
from latchroads.comings import MOST_TRAINS, place_of, road_into, train_web
from latchroads.errors import TooMany
from latchroads.kinds import check_kind, is_index, is_row
from latchroads.walks import through_latch

MOST_PAIRS = 1000
HIGHEST = 1000


def like_steps(row, other_row):
    """The list of (two settings, pair of states behind) in which two states leave the latch alike.

    Each row tells, for each setting, the setting left and the state behind.
    """
    return [((one, two), (behind, other_behind))
            for one, (left, behind) in enumerate(row)
            for two, (other_left, other_behind) in enumerate(other_row) if left == other_left]


def first_steps(row):
    """As like_steps, for one state in two unlike settings, the lesser one first."""
    return [(both, pair) for both, pair in like_steps(row, row) if both[0] < both[1]]


def placed(pairs, places, steps):
    """The list of (two settings, place of the pair behind) for some steps; pairs not met yet are met by them."""
    ways = [(both, place_of(pairs, places, pair)) for both, pair in steps]
    if len(pairs) > MOST_PAIRS:
        raise TooMany(MOST_PAIRS)
    return ways


def parted_web(kind, train):
    """The web of the parted pairs of a train.

    Returned are the web of the trains, the list of the pairs (of indices of
    these), for each train the list of (two settings, place of the pair behind)
    by which parted pairs begin, and the same, for each pair, by which they go on.
    """
    web = train_web(kind, train, MOST_TRAINS)
    rows = [list(zip(left_row, row)) for left_row, row in zip(web[1], web[2])]
    pairs = []
    places = {}
    begins = [placed(pairs, places, first_steps(row)) for row in rows]
    ways = []
    while len(ways) < len(pairs):
        first, second = pairs[len(ways)]
        ways.append(placed(pairs, places, like_steps(rows[first], rows[second])))
    return web, pairs, begins, ways


def walks_of(ways):
    """For each parted pair to how many others one goes on from it at most, None for as many as one likes."""
    return longest_walks([[to for _, to in row] for row in ways])


def look_ahead(kind, train):
    """The look-ahead of a train that tells endless roads apart, or None."""
    check_kind(kind)
    check_few_walkers(kind, train)
    _, _, _, ways = parted_web(kind, train)
    walks = walks_of(ways)
    if None in walks:
        return None
    return max([walk + 1 for walk in walks] + [0])


def height_paper(kind, train):
    """Any height paper for a train, or None."""
    check_kind(kind)
    check_few_walkers(kind, train)
    web, pairs, _, ways = parted_web(kind, train)
    walks = walks_of(ways)
    if None in walks:
        return None
    trains = web[0]
    return tuple(sorted([(trains[first], trains[second], walk) for (first, second), walk in zip(pairs, walks)]))


def is_height_row(kind, value):
    """Whether any value is a triple of two trains with as many walkers, and of a height."""
    if not isinstance(value, tuple) or len(value) != 3:
        return False
    first, second, height = value
    if not is_row(first, len(kind)) or not is_row(second, len(kind)):
        return False
    return len(first) == len(second) and is_index(height, HIGHEST + 1)


def leads_lower(kind, heights, first, second):
    """Whether each pair to which one of trains leads by a latch left alike has a lesser height."""
    settings = list(range(len(kind[0])))
    row = [through_latch(kind, first, setting) for setting in settings]
    other_row = [through_latch(kind, second, setting) for setting in settings]
    height = heights[first, second]
    return all([pair in heights and heights[pair] < height for _, pair in like_steps(row, other_row)])


def is_height_paper(kind, train, value):
    """Whether any value is a height paper for a train."""
    check_kind(kind)
    check_few_walkers(kind, train)
    web, pairs, _, _ = parted_web(kind, train)
    if not isinstance(value, tuple) or len(value) > MOST_PAIRS:
        return False
    if not all([is_height_row(kind, row) for row in value]) or not is_ascending(value):
        return False
    heights = {(first, second): height for first, second, height in value}
    trains = web[0]
    if len(heights) < len(value) or not all([(trains[one], trains[two]) in heights for one, two in pairs]):
        return False
    return all([leads_lower(kind, heights, first, second) for first, second, _ in value])


def side_of(rows, side):
    """The tuple of what stands at one side in pairs of settings."""
    return tuple([settings[side] for settings in rows])


def left_as_one(kind, train):
    """Any pair of unlike endless roads that a train leaves alike, or None."""
    check_kind(kind)
    check_few_walkers(kind, train)
    web, _, begins, ways = parted_web(kind, train)
    walks = walks_of(ways)
    begun = [(at, both, to) for at, row in enumerate(begins) for both, to in row if walks[to] is None]
    if not begun:
        return None
    at, both, to = begun[0]
    way, ring = way_into_ring(ways, walks, to)
    ahead = road_into(web[2], at)
    heads = [both] + [settings for _, settings in way]
    rings = [settings for _, settings in ring]
    return tuple([(ahead + side_of(heads, side), side_of(rings, side)) for side in (0, 1)])
