"""Endless roads that repeat."""

from latchroads.checks import check_few_walkers
from latchroads.comings import MOST_TRAINS, train_web
from latchroads.errors import InvalidEndless, TooMany
from latchroads.kinds import check_kind, is_row

LONGEST_PART = 12
LONGEST_LEFT = 1000


def is_endless_road(kind, value):
    """What is_endless returns, for a kind that is checked."""
    if not isinstance(value, tuple) or len(value) != 2:
        return False
    if not all([is_row(part, len(kind[0])) and len(part) <= LONGEST_PART for part in value]):
        return False
    return len(value[1]) > 0


def check_endless(kind, endless):
    """Raises InvalidEndless for what is no endless road of the kind."""
    if not is_endless_road(kind, endless):
        raise InvalidEndless("this is no endless road of the kind")


def shortest_ring(ring):
    """The shortest ring that is gone through once or more in a ring."""
    many = len(ring)
    lengths = [length for length in range(1, many + 1)
               if many % length == 0 and ring[length:] == ring[:many - length]]
    return ring[:lengths[0]]


def shortest(head, ring):
    """The shortest pair of the endless road that a pair tells."""
    ring = shortest_ring(ring)
    away = 0
    while away < len(head) and head[-1 - away] == ring[(-1 - away) % len(ring)]:
        away += 1
    turn = -away % len(ring)
    return head[:len(head) - away], ring[turn:] + ring[:turn]


def left_on(web, at, road):
    """The road as the train with an index in a web leaves it, and the index of the one as which it comes out."""
    _, lefts, steps = web
    left = []
    for setting in road:
        left.append(lefts[at][setting])
        at = steps[at][setting]
    return tuple(left), at


def joined(roads):
    """Some roads, one behind the other, as one."""
    return tuple([setting for road in roads for setting in road])


def is_endless(kind, value):
    """Whether any value is an endless road with few settings in head and ring."""
    check_kind(kind)
    return is_endless_road(kind, value)


def shortest_pair(kind, endless):
    """The shortest pair of an endless road."""
    check_kind(kind)
    check_endless(kind, endless)
    return shortest(endless[0], endless[1])


def left_endless(kind, train, endless):
    """The shortest pair of the endless road as which a train leaves one."""
    check_kind(kind)
    check_few_walkers(kind, train)
    check_endless(kind, endless)
    web = train_web(kind, train, MOST_TRAINS)
    head, at = left_on(web, 0, endless[0])
    # What comes ahead of the ring as the same train leaves it, and all behind it, as before.
    places = {}
    rings = []
    while at not in places:
        places[at] = len(rings)
        ring, at = left_on(web, at, endless[1])
        rings.append(ring)
    head, ring = shortest(head + joined(rings[:places[at]]), joined(rings[places[at]:]))
    if len(head) > LONGEST_LEFT or len(ring) > LONGEST_LEFT:
        raise TooMany(LONGEST_LEFT)
    return head, ring
