"""The numbers of kinds, among all with as many settings and sorts."""

from latchroads.checks import check_number
from latchroads.kinds import MOST_SETTINGS, MOST_SORTS, check_kind


def power_of(number, times):
    """A number to the power of so many times."""
    power = 1
    for _ in range(times):
        power = power * number
    return power


def many_kinds(settings, sorts):
    """How many kinds there are: one of all pairs for each setting of each sort."""
    return power_of(settings * sorts, settings * sorts)


def count_kinds(settings, sorts):
    """How many kinds there are with so many settings and sorts."""
    check_number(settings, 1, MOST_SETTINGS)
    check_number(sorts, 1, MOST_SORTS)
    return many_kinds(settings, sorts)


def kind_number(kind):
    """The index of a kind among all with as many settings and sorts, ascending."""
    check_kind(kind)
    sorts = len(kind)
    settings = len(kind[0])
    number = 0
    for row in kind:
        for left, behind in row:
            number = number * settings * sorts + left * sorts + behind
    return number


def kind_at(settings, sorts, number):
    """The kind with an index among all with so many settings and sorts, ascending."""
    check_number(settings, 1, MOST_SETTINGS)
    check_number(sorts, 1, MOST_SORTS)
    check_number(number, 0, many_kinds(settings, sorts) - 1)
    pairs = []
    for _ in range(settings * sorts):
        number, place = divmod(number, settings * sorts)
        pairs.append(divmod(place, sorts))
    pairs = pairs[::-1]
    return tuple([tuple(pairs[sort * settings:(sort + 1) * settings]) for sort in range(sorts)])
