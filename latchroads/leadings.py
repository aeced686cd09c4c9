"""Trains that lead roads to be left as it is told."""

from latchroads.alikes import is_ascending
from latchroads.checks import FEW_LATCHES, check_few_latches, check_number
from latchroads.comings import road_into, web_from
from latchroads.errors import InvalidSorts, InvalidTold
from latchroads.kinds import LONGEST, check_kind, is_row
from latchroads.walks import through_road

MOST_TOLD = 4
MOST_LED = 1000


def is_told_pair(kind, value):
    """Whether any value is a pair of a road and of the road left, with as many latches, and few."""
    if not isinstance(value, tuple) or len(value) != 2:
        return False
    if not all([is_row(road, len(kind[0])) and len(road) <= FEW_LATCHES for road in value]):
        return False
    return len(value[0]) == len(value[1])


def check_told(kind, told):
    """Raises InvalidTold for what is no told roads of the kind."""
    if not isinstance(told, tuple) or not 1 <= len(told) <= MOST_TOLD:
        raise InvalidTold("this is no tuple of so many pairs")
    if not all([is_told_pair(kind, pair) for pair in told]):
        raise InvalidTold("this is no tuple of pairs of a road and of the road left")


def check_sorts(kind, sorts):
    """Raises InvalidSorts for what is no ascending tuple of sorts of the kind."""
    if not is_row(sorts, len(kind)) or not is_ascending(sorts):
        raise InvalidSorts("this is no ascending tuple of sorts of the kind")


def left_by(kind, roads, sort):
    """The tuple of some roads as a walker of a sort leaves them."""
    left_roads = []
    for road in roads:
        left, _ = through_road(kind, (sort,), road)
        left_roads.append(left)
    return tuple(left_roads)


def led_web(kind, roads, sorts):
    """The tuples of roads to which trains of some sorts lead a first one, and the steps between them, by the sorts."""
    states, _, steps = web_from(roads, len(sorts), lambda state, place: (None, left_by(kind, state, sorts[place])),
                                MOST_LED)
    return states, steps


def told_web(kind, told):
    """The steps between all tuples of roads to which the first roads told are led, by trains of all sorts.

    Behind these stands the place of the roads left among them, None if they are not.
    """
    states, steps = led_web(kind, tuple([road for road, _ in told]), list(range(len(kind))))
    left = tuple([road for _, road in told])
    return steps, states.index(left) if left in states else None


def count_leading(kind, told, number):
    """How many trains of so many walkers lead told roads."""
    check_kind(kind)
    check_told(kind, told)
    check_number(number, 0, LONGEST)
    steps, goal = told_web(kind, told)
    if goal is None:
        return 0
    counts = [1 if place == goal else 0 for place in range(len(steps))]
    for _ in range(number):
        counts = [sum([counts[to] for to in row]) for row in steps]
    return counts[0]


def least_leading(kind, told):
    """The first train of the fewest walkers that leads told roads, or None."""
    check_kind(kind)
    check_told(kind, told)
    steps, goal = told_web(kind, told)
    if goal is None:
        return None
    return road_into(steps, goal)


def roads_led(kind, sorts, road):
    """The ascending list of all roads as which trains of some sorts alone leave a road."""
    check_kind(kind)
    check_sorts(kind, sorts)
    check_few_latches(kind, road)
    states, _ = led_web(kind, (road,), sorts)
    return sorted([led for (led,) in states])
