"""Trains that are sent through the same road again and again."""

from latchroads.checks import check_number, check_road, check_train
from latchroads.errors import TooMany
from latchroads.kinds import check_kind
from latchroads.walks import through_road

MOST_STANDINGS = 4096


def standings_of(kind, train, road, times):
    """The unlike standings up to the one behind so many sendings, in their order.

    With None for the times it is gone on until one comes again. Returned are the
    list of these standings, and the index of the one that comes again behind the
    last one of them, or None if so many sendings do not come to one.
    """
    places = {}
    standings = []
    while road not in places:
        if len(standings) == MOST_STANDINGS:
            raise TooMany(MOST_STANDINGS)
        places[road] = len(standings)
        standings.append(road)
        if places[road] == times:
            return standings, None
        road, _ = through_road(kind, train, road)
    return standings, places[road]


def round_of(kind, train, road):
    """The pair of how many standings the beginning and the round have."""
    check_kind(kind)
    check_train(kind, train)
    check_road(kind, road)
    standings, beginning = standings_of(kind, train, road, None)
    return beginning, len(standings) - beginning


def sent_again(kind, train, road, times):
    """The road behind so many sendings."""
    check_kind(kind)
    check_train(kind, train)
    check_road(kind, road)
    check_number(times, 0, 10 ** 18)
    standings, beginning = standings_of(kind, train, road, times)
    if beginning is None:
        return standings[times]
    return standings[beginning + (times - beginning) % (len(standings) - beginning)]
