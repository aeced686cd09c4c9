"""What comes of sorts and of trains."""

from latchroads.checks import check_sort, check_train
from latchroads.errors import TooMany
from latchroads.kinds import check_kind
from latchroads.walks import through_latch

MOST_TRAINS = 1000


def web_from_all(firsts, settings, passing, limit):
    """All that comes of some first ones, latch by latch, as it is met; to a limit, if it is not None.

    `passing(state, setting)` returns a mark, and the state behind one latch.
    Returned are the lists of the states, of their marks, one for each setting,
    and of the indices of the states behind one latch, one for each setting.
    """
    met = {state: place for place, state in enumerate(firsts)}
    states = list(firsts)
    marks = []
    steps = []
    while len(steps) < len(states):
        row = [passing(states[len(steps)], setting) for setting in range(settings)]
        for _, state in row:
            if state not in met:
                if len(states) == limit:
                    raise TooMany(limit)
                met[state] = len(states)
                states.append(state)
        marks.append(tuple([mark for mark, _ in row]))
        steps.append(tuple([met[state] for _, state in row]))
    return states, marks, steps


def web_from(first, settings, passing, limit):
    """As web_from_all, for one first state."""
    return web_from_all((first,), settings, passing, limit)


def train_web(kind, train, limit):
    """The web of all trains that come of a train; the marks are the settings left."""
    return web_from(train, len(kind[0]), lambda state, setting: through_latch(kind, state, setting), limit)


def road_into(steps, index):
    """The least road by which the state with an index is come to, from the first one."""
    # States are met in the order of the least roads to them, so the first
    # step that leads to a state is the last one of the least road to it.
    met_by = {}
    for at, row in enumerate(steps):
        for setting, to in enumerate(row):
            if to not in met_by:
                met_by[to] = (at, setting)
    road = []
    while index != 0:
        index, setting = met_by[index]
        road.append(setting)
    return tuple(road[::-1])


def place_of(states, places, state):
    """The place of a state among those that are met; a new one comes to their end."""
    if state not in places:
        places[state] = len(states)
        states.append(state)
    return places[state]


def least_marked(marks, steps):
    """The least road whose last latch has the mark True, or None."""
    for at, row in enumerate(marks):
        if True in row:
            return road_into(steps, at) + (row.index(True),)
    return None


def reached_from(rows, starts):
    """For each index whether it can be come to from one of some, by no step or more."""
    reached = [at in starts for at in range(len(rows))]
    waiting = list(starts)
    while waiting:
        at = waiting.pop()
        for to in rows[at]:
            if not reached[to]:
                reached[to] = True
                waiting.append(to)
    return reached


def sorts_coming(kind, train):
    """The ascending tuple of the sorts that come of a train's walkers, each by itself."""
    come = reached_from([[behind for _, behind in row] for row in kind], train)
    return tuple([sort for sort in range(len(kind)) if come[sort]])


def sorts_of(kind, sort):
    """The ascending tuple of the sorts that come of a sort."""
    check_kind(kind)
    check_sort(kind, sort)
    return sorts_coming(kind, (sort,))


def trains_of(kind, train):
    """The tuple of the trains that come of a train, as they are met."""
    check_kind(kind)
    check_train(kind, train)
    trains, _, _ = train_web(kind, train, MOST_TRAINS)
    return tuple(trains)


def road_to(kind, train, other):
    """The least road out of which a train comes as the other one, or None."""
    check_kind(kind)
    check_train(kind, train)
    check_train(kind, other)
    trains, _, steps = train_web(kind, train, MOST_TRAINS)
    if other not in trains:
        return None
    return road_into(steps, trains.index(other))
