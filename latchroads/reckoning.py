"""Endless roads as numbers, and trains that reckon with them."""

from math import gcd

from latchroads.checks import check_few_walkers, check_number
from latchroads.comings import least_marked, web_from
from latchroads.endless import check_endless
from latchroads.errors import InvalidKind, InvalidNumber, TooMany
from latchroads.kindnumbers import power_of
from latchroads.kinds import check_kind
from latchroads.walks import through_latch

GREATEST_PART = 1000000
LONGEST_TOLD = 1000
MOST_PAIRS = 1000
GREATEST_RECKONED = 20


def check_reckoning(kind):
    """Raises InvalidKind for what is no kind, and for one with which no numbers are reckoned."""
    check_kind(kind)
    if len(kind[0]) < 2:
        raise InvalidKind("numbers are not reckoned with one setting")


def sum_told(settings, places, first):
    """The sum of some settings, each times a number to the power of its index, told from a first index on."""
    power = power_of(places, first)
    total = 0
    for setting in settings:
        total += setting * power
        power = power * places
    return total


def number_told(kind, endless):
    """The pair of the upper and of the lower part of the number of an endless road, in its least terms."""
    check_reckoning(kind)
    check_endless(kind, endless)
    head, ring = endless
    places = len(kind[0])
    lower = power_of(places, len(ring)) - 1
    upper = sum_told(head, places, 0) * lower - sum_told(ring, places, len(head))
    common = gcd(upper, lower)
    return upper // common, lower // common


def next_setting(places, upper, lower):
    """The first setting of the endless road with a number, told as a fraction."""
    fit = [setting for setting in range(places) if (upper - setting * lower) % places == 0]
    return fit[0]


def endless_told(kind, upper, lower):
    """The shortest pair of the endless road with a number."""
    check_reckoning(kind)
    check_number(upper, -GREATEST_PART, GREATEST_PART)
    check_number(lower, 1, GREATEST_PART)
    places = len(kind[0])
    if gcd(lower, places) != 1:
        raise InvalidNumber("the lower part has a divisor in common with the number of settings")
    # Unlike numbers have unlike roads, so what comes again first tells the shortest head and ring.
    met = {}
    road = []
    while upper not in met:
        if len(road) == 2 * LONGEST_TOLD:
            raise TooMany(LONGEST_TOLD)
        met[upper] = len(road)
        setting = next_setting(places, upper, lower)
        road.append(setting)
        upper = (upper - setting * lower) // places
    head, ring = tuple(road[:met[upper]]), tuple(road[met[upper]:])
    if len(head) > LONGEST_TOLD or len(ring) > LONGEST_TOLD:
        raise TooMany(LONGEST_TOLD)
    return head, ring


def carried_through(kind, rate, state, setting):
    """Whether what is carried cannot be divided behind a latch, and the pair of the train and of what is carried."""
    upper, lower = rate
    train, carried = state
    left, out = through_latch(kind, train, setting)
    carried += upper * setting - lower * left
    if carried % len(kind[0]) != 0:
        return True, state
    return False, (out, carried // len(kind[0]))


def least_bar(kind, train, a, b, c):
    """What reckon_bar returns, with its checks."""
    check_reckoning(kind)
    check_few_walkers(kind, train)
    check_number(a, -GREATEST_RECKONED, GREATEST_RECKONED)
    check_number(b, -GREATEST_RECKONED, GREATEST_RECKONED)
    check_number(c, 1, GREATEST_RECKONED)
    _, marks, steps = web_from((train, b), len(kind[0]),
                               lambda state, setting: carried_through(kind, (a, c), state, setting), MOST_PAIRS)
    return least_marked(marks, steps)


def does_reckon(kind, train, a, b, c):
    """Whether a train reckons that c times the number left is a times the number, and b."""
    return least_bar(kind, train, a, b, c) is None


def reckon_bar(kind, train, a, b, c):
    """The least bar for what a train is to reckon, or None."""
    return least_bar(kind, train, a, b, c)
