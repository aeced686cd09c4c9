"""The latches at which two trains are apart."""

from latchroads.alikes import check_pair, least_parting, pair_web
from latchroads.checks import check_number
from latchroads.comings import reached_from

MOST_INDEX = 400


def steps_back(rows):
    """For each index the list of those from which a step leads to it, as often as one does."""
    back = [[] for _ in rows]
    for at, row in enumerate(rows):
        for to in row:
            back[to].append(at)
    return back


def leading_to(rows, goals):
    """For each index whether one of the goals can be come to from it, by no step or more."""
    return reached_from(steps_back(rows), goals)


def longest_walks(rows):
    """For each index how many steps can be gone from it at most, None for as many as one likes."""
    back = steps_back(rows)
    open_steps = [len(row) for row in rows]
    longest = [None] * len(rows)
    ends = [at for at, row in enumerate(rows) if not row]
    steps = 0
    while ends:
        ahead = []
        for at in ends:
            longest[at] = steps
            for to in back[at]:
                open_steps[to] -= 1
                if open_steps[to] == 0:
                    ahead.append(to)
        ends = ahead
        steps += 1
    return longest


def walks_to_parting(marks, steps):
    """As longest_walks, for steps to where the trains can still be parted; -1 where they can not be."""
    goals = {at: True for at, row in enumerate(marks) if True in row}
    leads = leading_to(steps, goals)
    longest = longest_walks([[to for to in row if leads[to]] for row in steps])
    return [walk if lead else -1 for walk, lead in zip(longest, leads)]


def way_into_ring(rows, walks, at):
    """A way from an index with walks without end to a ring, and this; both are tuples of pairs (index, setting).

    Rows tell, for each index, the steps (setting, index to which it leads), and
    walks, for each index, None if there are walks without end from it.
    """
    # From such an index some step leads to one with such walks, too: at last in a ring.
    met = {}
    way = []
    while at not in met:
        met[at] = len(way)
        endless = [(setting, to) for setting, to in rows[at] if walks[to] is None]
        setting, to = endless[0]
        way.append((at, setting))
        at = to
    return tuple(way[:met[at]]), tuple(way[met[at]:])


def apart_at(kind, train, beside, other, number):
    """Whether two trains are apart at an index."""
    check_pair(kind, train, beside, other)
    check_number(number, 0, MOST_INDEX)
    _, marks, steps = pair_web(kind, train, beside, other)
    ahead = [0]
    for _ in range(number):
        ahead = sorted({to for at in ahead for to in steps[at]})
    return any([True in marks[at] for at in ahead])


def last_apart(kind, train, beside, other):
    """The greatest index at which two trains are apart, -1 for none, None for ones as great as one likes."""
    check_pair(kind, train, beside, other)
    _, marks, steps = pair_web(kind, train, beside, other)
    return walks_to_parting(marks, steps)[0]


def pumped_road(kind, train, beside, other):
    """Any pumped road of two trains, or None."""
    check_pair(kind, train, beside, other)
    pairs, marks, steps = pair_web(kind, train, beside, other)
    walks = walks_to_parting(marks, steps)
    if walks[0] is not None:
        return None
    road, ring = way_into_ring([list(enumerate(row)) for row in steps], walks, 0)
    train, other = pairs[ring[0][0]]
    tail = least_parting(kind, train, beside, other)
    return tuple([setting for _, setting in road]), tuple([setting for _, setting in ring]), tail
