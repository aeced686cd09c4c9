"""The webs of trains, and how many latches trains change."""

from latchroads.checks import check_number, check_road, check_train
from latchroads.comings import train_web
from latchroads.errors import InvalidSide
from latchroads.kinds import check_kind
from latchroads.walks import through_road

MOST_IN_WEB = 200
MOST_LATCHES = 200
SIDES = ("most", "least")


def check_side(value, sides):
    """Raises InvalidSide for what is none of some words."""
    if value not in sides:
        raise InvalidSide("this is no side, or no count")


def change_web(kind, train):
    """What web_of returns, for arguments that are checked."""
    _, lefts, steps = train_web(kind, train, MOST_IN_WEB)
    return tuple([tuple([(to, 1 if left != setting else 0) for setting, (left, to) in enumerate(zip(left_row, row))])
                  for left_row, row in zip(lefts, steps)])


def sign_of(side):
    """What numbers are multiplied by so that the side that is asked for is their greatest one."""
    return 1 if side == "most" else -1


def weighed_rows(web, sign):
    """For each index of a web the list of its steps, (index, weight), weighed as by a sign."""
    return [[(to, sign * change) for to, change in row] for row in web]


def greatest_in(rows, many):
    """For 0 steps and on, to so many, for each index the greatest sum of the weights of so many steps from it."""
    sums = [[0] * len(rows)]
    for _ in range(many):
        sums.append([max([weight + sums[-1][to] for to, weight in row]) for row in rows])
    return sums


def web_of(kind, train):
    """The web of a train."""
    check_kind(kind)
    check_train(kind, train)
    return change_web(kind, train)


def changed_latches(kind, train, road):
    """The ascending tuple of the indices of the latches of a road that a train changes."""
    check_kind(kind)
    check_train(kind, train)
    check_road(kind, road)
    left_road, _ = through_road(kind, train, road)
    return tuple([latch for latch, (setting, left) in enumerate(zip(road, left_road)) if left != setting])


def changed_at(kind, train, side, latches):
    """The greatest or the least number of latches that a train changes on a road of so many."""
    check_kind(kind)
    check_train(kind, train)
    check_side(side, SIDES)
    check_number(latches, 0, MOST_LATCHES)
    sign = sign_of(side)
    sums = greatest_in(weighed_rows(change_web(kind, train), sign), latches)
    return sign * sums[-1][0]
