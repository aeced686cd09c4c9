"""Roads that let all trains through alike."""

from latchroads.alikes import is_ascending, is_closed
from latchroads.checks import FEW_LATCHES, check_few_latches
from latchroads.comings import place_of, road_into
from latchroads.errors import TooMany
from latchroads.kinds import check_kind, is_row
from latchroads.walks import through_road

MOST_PAIRS = 1000


def check_roads(kind, road, mate):
    """Checks a kind, and two of its roads with few latches."""
    check_kind(kind)
    check_few_latches(kind, road)
    check_few_latches(kind, mate)


def pair_by(kind, pair, sort):
    """Whether a walker of a sort parts a pair of roads, and the pair of roads as which it leaves them."""
    left, out = through_road(kind, (sort,), pair[0])
    other_left, other_out = through_road(kind, (sort,), pair[1])
    return out != other_out, (left, other_left)


def pairs_met(kind, road, mate):
    """The pairs of roads that are met, and the least train that parts the two, or None.

    Behind the first pair that a walker parts no pairs are met.
    """
    pairs = [(road, mate)]
    places = {(road, mate): 0}
    steps = []
    while len(steps) < len(pairs):
        row = [pair_by(kind, pairs[len(steps)], sort) for sort in range(len(kind))]
        parted = [unlike for unlike, _ in row]
        if True in parted:
            return pairs, road_into(steps, len(steps)) + (parted.index(True),)
        steps.append([place_of(pairs, places, pair) for _, pair in row])
        if len(pairs) > MOST_PAIRS:
            raise TooMany(MOST_PAIRS)
    return pairs, None


def let_alike(kind, road, mate):
    """Whether two roads let all trains through alike."""
    check_roads(kind, road, mate)
    _, train = pairs_met(kind, road, mate)
    return train is None


def parting_train(kind, road, mate):
    """The least train that parts two roads, or None."""
    check_roads(kind, road, mate)
    _, train = pairs_met(kind, road, mate)
    return train


def closed_roads(kind, road, mate):
    """Any closed lot of roads with the pair of both, or None."""
    check_roads(kind, road, mate)
    pairs, train = pairs_met(kind, road, mate)
    if train is not None:
        return None
    return tuple(sorted(pairs))


def is_road_pair(kind, value):
    """Whether any value is a pair of roads of a kind, with few latches."""
    if not isinstance(value, tuple) or len(value) != 2:
        return False
    return all([is_row(road, len(kind[0])) and len(road) <= FEW_LATCHES for road in value])


def are_closed_roads(kind, road, mate, value):
    """Whether any value is a closed lot of roads with the pair of both."""
    check_roads(kind, road, mate)
    if not isinstance(value, tuple) or len(value) > MOST_PAIRS:
        return False
    if not all([is_road_pair(kind, pair) for pair in value]):
        return False
    if not is_ascending(value) or (road, mate) not in value:
        return False
    return is_closed(value, len(kind), lambda pair, sort: pair_by(kind, pair, sort))
