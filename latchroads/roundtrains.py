"""The trains of a turning kind that bring roads of all lengths round in one."""

from math import gcd

from latchroads.aparts import leading_to
from latchroads.checks import check_number
from latchroads.errors import NotTurning, TooMany
from latchroads.kindnumbers import power_of
from latchroads.kinds import LONGEST, all_rows, check_kind
from latchroads.turnsums import next_counts, row_turn, sum_of

MOST_COUNTS = 729


def check_all_turn(kind):
    """Raises NotTurning for a kind of which some sort does not turn."""
    if None in [row_turn(row) for row in kind]:
        raise NotTurning("a sort of the kind does not turn")


def check_few_counts(kind, sorts):
    """Raises TooMany for more counts of so many sorts than are gone through."""
    if power_of(len(kind[0]), sorts) > MOST_COUNTS:
        raise TooMany(MOST_COUNTS)


def counts_and_goals(kind):
    """The places of all counts, and for each place whether trains with these bring all roads round in one."""
    all_counts = all_rows(len(kind[0]), len(kind))
    places = {counts: place for place, counts in enumerate(all_counts)}
    steps = [[places[next_counts(kind, counts)]] for counts in all_counts]
    sorts = list(range(len(kind)))
    sums = [sum_of(kind, sorts, counts) for counts in all_counts]
    short = [place for place, found in enumerate(sums) if gcd(found, len(kind[0])) != 1]
    return places, [not leads for leads in leading_to(steps, short)]


def one_more(places, counts, settings):
    """The places of the counts with one walker more, of each sort in turn."""
    return [places[counts[:sort] + ((many + 1) % settings,) + counts[sort + 1:]]
            for sort, many in enumerate(counts)]


def trains_ahead(kind):
    """For each place of counts the places with one walker more, and whether it is a goal."""
    places, goals = counts_and_goals(kind)
    return [one_more(places, counts, len(kind[0])) for counts in places], goals


def goals_ahead(steps, goals, most):
    """For 0 walkers and on, to so many, for each place whether so many more walkers lead from it to a goal."""
    ahead = [goals]
    for _ in range(most):
        ahead.append([any([ahead[-1][to] for to in row]) for row in steps])
    return ahead


def first_to_goal(steps, ahead):
    """The first train, of as many walkers as goals_ahead was told, that leads to a goal, or None."""
    if not ahead[-1][0]:
        return None
    train = []
    place = 0
    for goals in ahead[-2::-1]:
        sort = [goals[to] for to in steps[place]].index(True)
        train.append(sort)
        place = steps[place][sort]
    return tuple(train)


def count_round_trains(kind, walkers):
    """How many trains of so many walkers bring roads of all lengths round in one."""
    check_kind(kind)
    check_all_turn(kind)
    check_number(walkers, 0, LONGEST)
    check_few_counts(kind, len(kind))
    steps, goals = trains_ahead(kind)
    counts = [1 if goal else 0 for goal in goals]
    for _ in range(walkers):
        counts = [sum([counts[to] for to in row]) for row in steps]
    return counts[0]


def least_round_train(kind):
    """The least train that brings roads of all lengths round in one, or None."""
    check_kind(kind)
    check_all_turn(kind)
    check_few_counts(kind, len(kind))
    steps, goals = trains_ahead(kind)
    # No count is above its settings, so a train that leads to a goal needs no more walkers than one can have.
    ahead = goals_ahead(steps, goals, LONGEST)
    fewest = [walkers for walkers, row in enumerate(ahead) if row[0]]
    return first_to_goal(steps, ahead[:fewest[0] + 1]) if fewest else None


def first_round_train(kind, walkers):
    """The first train of so many walkers that brings roads of all lengths round in one, or None."""
    check_kind(kind)
    check_all_turn(kind)
    check_number(walkers, 0, LONGEST)
    check_few_counts(kind, len(kind))
    steps, goals = trains_ahead(kind)
    return first_to_goal(steps, goals_ahead(steps, goals, walkers))
