"""How many roads have their last latch changed, or are changed nowhere, and how these counts grow."""

from latchroads.aparts import leading_to
from latchroads.changes import MOST_LATCHES, change_web, check_side
from latchroads.checks import check_number, check_train
from latchroads.comings import reached_from
from latchroads.kinds import check_kind

COUNTS = ("last", "alone")


def roads_last(web, latches):
    """How many roads of so many latches have their last one changed."""
    if latches == 0:
        return 0
    counts = [sum([change for _, change in row]) for row in web]
    for _ in range(latches - 1):
        counts = [sum([counts[to] for to, _ in row]) for row in web]
    return counts[0]


def roads_alone(web, latches):
    """How many roads of so many latches are changed nowhere."""
    counts = [1] * len(web)
    for _ in range(latches):
        counts = [sum([counts[to] for to, change in row if change == 0]) for row in web]
    return counts[0]


def steps_to(rows):
    """For each index the list of the indices to which its steps (setting, index) lead."""
    return [[to for _, to in row] for row in rows]


def count_web(web, count):
    """For each index the list of its steps (setting, index) in the web of a count."""
    if count == "last":
        steps = [[(setting, to) for setting, (to, _) in enumerate(row)] for row in web]
        changing = [at for at, row in enumerate(web) if 1 in [change for _, change in row]]
        there = leading_to(steps_to(steps), changing)
    else:
        steps = [[(setting, to) for setting, (to, change) in enumerate(row) if change == 0] for row in web]
        there = reached_from(steps_to(steps), [0])
    return [[(setting, to) for setting, to in row if there[at] and there[to]] for at, row in enumerate(steps)]


def reaches(rows):
    """For each index whether each index can be come to from it, by one step or more."""
    steps = steps_to(rows)
    return [reached_from(steps, row) for row in steps]


def steps_in_rings(rows, reach):
    """For each index the list of its steps (setting, index) that stand in rings."""
    return [[(setting, to) for setting, to in row if reach[to][at]] for at, row in enumerate(rows)]


def ring_with(inner, at, step):
    """The ring that begins with a step from an index, and comes back to it by the fewest steps in rings."""
    setting, first = step
    ways = {first: ((at, setting),)}
    ends = [first]
    while at not in ways:
        ahead = []
        for end in ends:
            for setting, to in inner[end]:
                if to not in ways:
                    ways[to] = ways[end] + ((end, setting),)
                    ahead.append(to)
        ends = ahead
    return ways[at]


def longest_row(inner, reach):
    """The indices at which rings in a row begin, as many as there can be, where no two rings share an index."""
    firsts = []
    for at, row in enumerate(inner):
        if row and not any([reach[one][at] and reach[at][one] for one in firsts]):
            firsts.append(at)
    # From a ring fewer rings can be come to than from each one ahead of it.
    order = sorted([(sum([reach[one][to] for to in firsts]), one) for one in firsts])
    rows = {}
    longest = ()
    for _, at in order:
        behind = [rows[to] for to in rows if reach[at][to]]
        rows[at] = (at,) + max(behind + [()], key=len)
        longest = max(longest, rows[at], key=len)
    return longest


def rings_told(kind, train, count):
    """Whether a count is doubling, and what growth_rings returns, for arguments that are checked."""
    rows = count_web(change_web(kind, train), count)
    reach = reaches(rows)
    inner = steps_in_rings(rows, reach)
    for at, row in enumerate(inner):
        if len(row) > 1:
            return True, tuple([ring_with(inner, at, step) for step in row[:2]])
    return False, tuple([ring_with(inner, at, inner[at][0]) for at in longest_row(inner, reach)])


def roads_counted(kind, train, count, latches):
    """A count of a train for roads of so many latches."""
    check_kind(kind)
    check_train(kind, train)
    check_side(count, COUNTS)
    check_number(latches, 0, MOST_LATCHES)
    web = change_web(kind, train)
    if count == "last":
        return roads_last(web, latches)
    return roads_alone(web, latches)


def growth_of(kind, train, count):
    """The growth of a count of a train."""
    check_kind(kind)
    check_train(kind, train)
    check_side(count, COUNTS)
    doubling, rings = rings_told(kind, train, count)
    if doubling:
        return "doubling"
    if len(rings) < 2:
        return "bounded" if rings else "none"
    return "power", len(rings) - 1


def growth_rings(kind, train, count):
    """As many rings in a row as there can be, or, if the growth is doubling, two unlike ones that begin alike."""
    check_kind(kind)
    check_train(kind, train)
    check_side(count, COUNTS)
    _, rings = rings_told(kind, train, count)
    return rings
