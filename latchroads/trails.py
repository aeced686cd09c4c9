"""What brought the latches of a log to where they stand, and what could be spared, or exchanged."""

from latchroads.errors import InvalidIndex
from latchroads.kinds import is_index
from latchroads.logs import CUT, JOIN, SEND, SET, can_be_done, check_log, roads_of
from latchroads.walks import steps_of


def check_index(index, many):
    """Raises InvalidIndex for what is no index of so many latches."""
    if not is_index(index, many):
        raise InvalidIndex("this is no index of a latch")


def changes_by(kind, road, deed):
    """The list of the pairs (index of a latch, index of a walker, or None) in which a deed changes a latch."""
    if deed[0] == SEND:
        return [(latch, walker) for walker, latch, _, setting, left, _ in steps_of(kind, deed[1], road)
                if left != setting]
    if deed[0] == SET and road[deed[1]] != deed[2]:
        return [(deed[1], None)]
    return []


def trails_of(log):
    """The trails of all latches that stand behind a log."""
    kind, road, deeds = log
    trails = [() for _ in road]
    for at, (deed, ahead) in enumerate(zip(deeds, roads_of(log))):
        if deed[0] == JOIN:
            trails.append(((at, None),))
        if deed[0] == CUT:
            trails.pop()
        for latch, walker in changes_by(kind, ahead, deed):
            trails[latch] = trails[latch] + ((at, walker),)
    return trails


def trail_of(log, index):
    """The trail of a latch that stands behind a log."""
    check_log(log)
    trails = trails_of(log)
    check_index(index, len(trails))
    return trails[index]


def last_road(kind, road, deeds):
    """The road behind some deeds that can be done."""
    return roads_of((kind, road, deeds))[-1]


def without_walker(deeds, at, walker):
    """Some deeds, of which the train of one is without a walker."""
    _, train = deeds[at]
    return deeds[:at] + ((SEND, train[:walker] + train[walker + 1:]),) + deeds[at + 1:]


def spared_walkers(log):
    """The ascending list of the pairs (deed, walker) without which, each by itself, a log ends in the same road."""
    check_log(log)
    kind, road, deeds = log
    end = last_road(kind, road, deeds)
    walkers = [(at, walker) for at, deed in enumerate(deeds) if deed[0] == SEND for walker in range(len(deed[1]))]
    return [(at, walker) for at, walker in walkers
            if last_road(kind, road, without_walker(deeds, at, walker)) == end]


def with_next(deeds, at):
    """Some deeds, of which one is exchanged with the next one."""
    return deeds[:at] + (deeds[at + 1], deeds[at]) + deeds[at + 2:]


def exchanged_deeds(log):
    """The ascending list of the indices of the deeds that can be exchanged with the next one."""
    check_log(log)
    kind, road, deeds = log
    end = last_road(kind, road, deeds)
    exchanged = [(at, with_next(deeds, at)) for at in range(len(deeds) - 1)]
    return [at for at, others in exchanged
            if can_be_done(kind, road, others) and last_road(kind, road, others) == end]
