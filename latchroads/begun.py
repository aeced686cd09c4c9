"""Which endless roads are left by a train, and which stay as they are."""

from latchroads.aparts import longest_walks, way_into_ring
from latchroads.checks import check_few_walkers
from latchroads.comings import MOST_TRAINS, road_into, train_web, web_from
from latchroads.endless import shortest
from latchroads.errors import TooMany
from latchroads.kinds import check_kind

MOST_LOTS = 1000
MOST_ROADS = 1000
WITHOUT_END = "endless"


def lot_by(outs, lot, left):
    """The lot that comes of a lot by one latch more that is left in a setting."""
    return tuple(sorted({to for at in lot for to in outs[at][left]}))


def lot_web(kind, train):
    """The list of all lots that come of a train, the empty one too, and their steps, by the settings left."""
    # Only lots are counted here, not trains: so few walkers have not too many of them.
    _, lefts, steps = train_web(kind, train, None)
    settings = list(range(len(kind[0])))
    outs = [[sorted({to for left, to in zip(left_row, row) if left == setting}) for setting in settings]
            for left_row, row in zip(lefts, steps)]
    lots, _, ways = web_from((0,), len(settings), lambda lot, left: (None, lot_by(outs, lot, left)), MOST_LOTS)
    return lots, ways


def is_onto(kind, train):
    """Whether every endless road is left by a train from some one."""
    check_kind(kind)
    check_few_walkers(kind, train)
    lots, _ = lot_web(kind, train)
    return () not in lots


def never_begun(kind, train):
    """The least tuple of settings that is not begun by a train, or None."""
    check_kind(kind)
    check_few_walkers(kind, train)
    lots, ways = lot_web(kind, train)
    if () not in lots:
        return None
    return road_into(ways, lots.index(()))


def kept_ways(kind, train):
    """For each train that comes the list of (setting, index of the train behind) by which some endless road stays."""
    _, lefts, steps = train_web(kind, train, MOST_TRAINS)
    rows = [[(setting, to) for setting, (left, to) in enumerate(zip(left_row, row)) if left == setting]
            for left_row, row in zip(lefts, steps)]
    walks = longest_walks([[to for _, to in row] for row in rows])
    return [[(setting, to) for setting, to in row if walks[to] is None] for row in rows]


def alone_from(ways):
    """For each index whether just one endless way goes on from it, with one step at each index."""
    walks = longest_walks([[to for _, to in row] if len(row) == 1 else [] for row in ways])
    return [walk is None for walk in walks]


def ways_counted(ways, alone):
    """How many endless ways go on from the index 0, or None for infinitely many."""
    walks = longest_walks([[] if one else [to for _, to in row] for row, one in zip(ways, alone)])
    if walks[0] is None:
        return None
    counts = {}
    for _, at in sorted([(walk, at) for at, walk in enumerate(walks) if walk is not None]):
        counts[at] = 1 if alone[at] else sum([counts[to] for _, to in ways[at]])
    return counts[0]


def all_kept(ways, alone):
    """The list of the shortest pairs of all endless ways from the index 0, if these are not infinitely many."""
    walks = [None] * len(ways)
    found = []
    waiting = [((), 0)]
    while waiting:
        head, at = waiting.pop()
        if alone[at]:
            way, ring = way_into_ring(ways, walks, at)
            head = head + tuple([setting for _, setting in way])
            found.append(shortest(head, tuple([setting for _, setting in ring])))
        else:
            waiting.extend([(head + (setting,), to) for setting, to in ways[at]])
    return found


def kept_count(kind, train):
    """How many endless roads, whether they repeat or not, stay as they are, or "endless"."""
    check_kind(kind)
    check_few_walkers(kind, train)
    ways = kept_ways(kind, train)
    many = ways_counted(ways, alone_from(ways))
    return WITHOUT_END if many is None else many


def kept_roads(kind, train):
    """The ascending list of the shortest pairs of the endless roads that stay as they are, or None for "endless"."""
    check_kind(kind)
    check_few_walkers(kind, train)
    ways = kept_ways(kind, train)
    alone = alone_from(ways)
    many = ways_counted(ways, alone)
    if many is None:
        return None
    if many > MOST_ROADS:
        raise TooMany(MOST_ROADS)
    return sorted(all_kept(ways, alone))
