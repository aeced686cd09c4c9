"""Logs of what is done to a road."""

from latchroads.checks import FEW_WALKERS, check_number
from latchroads.errors import InvalidLog
from latchroads.kinds import is_index, is_kind, is_row
from latchroads.walks import through_road

MOST_LATCHES = 12
MOST_DEEDS = 30
SEND = "send"
SET = "set"
JOIN = "join"
CUT = "cut"


def is_log_road(kind, value):
    """Whether any value is a road of a kind with which a log may begin."""
    return is_row(value, len(kind[0])) and len(value) <= MOST_LATCHES


def latches_behind(kind, deed, latches):
    """How many latches there are behind a deed that is done when there are so many; None for what cannot be done."""
    if not isinstance(deed, tuple) or len(deed) == 0:
        return None
    word = deed[0]
    if word == SEND and len(deed) == 2:
        return latches if is_row(deed[1], len(kind)) and len(deed[1]) <= FEW_WALKERS else None
    if word == SET and len(deed) == 3:
        return latches if is_index(deed[1], latches) and is_index(deed[2], len(kind[0])) else None
    if word == JOIN and len(deed) == 2:
        return latches + 1 if is_index(deed[1], len(kind[0])) and latches < MOST_LATCHES else None
    if word == CUT and len(deed) == 1:
        return latches - 1 if latches > 0 else None
    return None


def can_be_done(kind, road, deeds):
    """Whether some values are deeds that can be done to a road, in turn."""
    latches = len(road)
    for deed in deeds:
        latches = latches_behind(kind, deed, latches)
        if latches is None:
            return False
    return True


def is_log(value):
    """Whether any value is a log."""
    if not isinstance(value, tuple) or len(value) != 3:
        return False
    kind, road, deeds = value
    if not is_kind(kind) or not is_log_road(kind, road):
        return False
    return isinstance(deeds, tuple) and len(deeds) <= MOST_DEEDS and can_be_done(kind, road, deeds)


def check_log(log):
    """Raises InvalidLog for what is no log."""
    if not is_log(log):
        raise InvalidLog("this is no log")


def road_behind(kind, road, deed):
    """The road behind a deed that can be done to it."""
    word = deed[0]
    if word == SEND:
        left, _ = through_road(kind, deed[1], road)
        return left
    if word == SET:
        return road[:deed[1]] + deed[2:] + road[deed[1] + 1:]
    if word == JOIN:
        return road + deed[1:]
    return road[:-1]


def roads_of(log):
    """What log_roads returns, for a log that is checked."""
    kind, road, deeds = log
    roads = [road]
    for deed in deeds:
        roads.append(road_behind(kind, roads[-1], deed))
    return roads


def log_roads(log):
    """The list of the road of a log and of that behind each deed."""
    check_log(log)
    return roads_of(log)


def is_on_first(deed, latches, many):
    """Whether a deed, done when there are so many latches, is done to some of the first ones."""
    word = deed[0]
    if word == SET:
        return deed[1] < many
    if word == JOIN:
        return latches < many
    if word == CUT:
        return latches <= many
    return True


def first_latches(log, many):
    """The log on the first latches of a log, so many."""
    check_log(log)
    check_number(many, 0, MOST_LATCHES)
    kind, road, deeds = log
    roads = roads_of(log)
    return kind, road[:many], tuple([deed for deed, ahead in zip(deeds, roads) if is_on_first(deed, len(ahead), many)])
