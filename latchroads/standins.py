"""Trains that may stand in the place of stretches of others."""

from latchroads.alikes import MOST_PAIRS
from latchroads.checks import check_train
from latchroads.comings import place_of, web_from
from latchroads.errors import InvalidStretch, TooMany
from latchroads.kinds import LONGEST, check_kind, is_index
from latchroads.walks import through_latch


def check_stretch(train, begin, end):
    """Raises InvalidStretch for what is no stretch of a train."""
    if not is_index(end, len(train) + 1) or not is_index(begin, end + 1):
        raise InvalidStretch("this is no stretch of the train")


def with_stretch(kind, train, begin, end, other):
    """The train in which the other one stands in the place of a stretch."""
    check_kind(kind)
    check_train(kind, train)
    check_stretch(train, begin, end)
    check_train(kind, other)
    whole = train[:begin] + other + train[end:]
    if len(whole) > LONGEST:
        raise TooMany(LONGEST)
    return whole


def settings_between(kind, train, setting):
    """The settings of a latch ahead of each walker and behind the last one, and the train that comes out."""
    between = [setting]
    out = []
    for sort in train:
        setting, behind = kind[sort][setting]
        between.append(setting)
        out.append(behind)
    return tuple(between), tuple(out)


def rest_through(kind, known, place):
    """For each setting the pair (setting left, place of the rest behind the latch) of a rest.

    Rests are trains, told by their places in what is known of them: their list,
    their places, and these pairs, each reckoned once.
    """
    rests, places, rows = known
    if place not in rows:
        row = [through_latch(kind, rests[place], setting) for setting in range(len(kind[0]))]
        rows[place] = tuple([(left, place_of(rests, places, rest)) for left, rest in row])
    return rows[place]


def may_end_so(kind, web, begin, known):
    """Whether a train is alike to its first walkers, so many, with the first known rest behind them."""
    _, betweens, steps = web

    # The first walkers go in both trains as one, so only the rest is walked anew.
    def through(state, setting):
        at, place = state
        between = betweens[at][setting]
        left, behind = rest_through(kind, known, place)[between[begin]]
        return left != between[-1], (steps[at][setting], behind)

    _, marks, _ = web_from((0, 0), len(kind[0]), through, MOST_PAIRS)
    return not any([True in row for row in marks])


def stretches_for(kind, train, other):
    """The stretches of a train in whose place the other one may stand, so that what comes is alike to the train."""
    check_kind(kind)
    check_train(kind, train)
    check_train(kind, other)
    web = web_from(train, len(kind[0]), lambda state, setting: settings_between(kind, state, setting), MOST_PAIRS)
    fit = {}
    found = []
    for end in range(len(train) + 1):
        rest = other + train[end:]
        known = ([rest], {rest: 0}, {})
        for begin in range(end + 1):
            whole = train[:begin] + rest
            if len(whole) > LONGEST:
                continue
            if whole not in fit:
                fit[whole] = may_end_so(kind, web, begin, known)
            if fit[whole]:
                found.append((begin, end))
    return sorted(found)
