"""Turns by which a train would bring roads of all lengths round in one."""

from math import gcd

from latchroads.checks import check_train
from latchroads.comings import sorts_coming
from latchroads.errors import InvalidTurns
from latchroads.kinds import all_rows, check_kind, is_row
from latchroads.roundtrains import check_few_counts
from latchroads.turnsums import counts_told


def check_turns(kind, sorts, turns):
    """Raises InvalidTurns for what is no turns for some sorts of a kind."""
    if not is_row(turns, len(kind[0])) or len(turns) != len(sorts):
        raise InvalidTurns("this is no turns for the kind and the train")


def bring_round(settings, told, turns):
    """Whether the sums by some turns, for all told counts, have no divisor in common with the settings."""
    for counts in told:
        found = sum([many * turn for many, turn in zip(counts, turns)])
        if gcd(found, settings) != 1:
            return False
    return True


def wishes(kind, train):
    """The ascending list of all turns by which a train would bring roads of all lengths round in one."""
    sorts = sorts_coming(kind, train)
    check_few_counts(kind, len(sorts))
    # How walkers go on is not wished for, so the counts stay as they are.
    told, _ = counts_told(kind, train)
    told = [[counts[sort] for sort in sorts] for counts in told]
    settings = len(kind[0])
    return [turns for turns in all_rows(settings, len(sorts)) if bring_round(settings, told, turns)]


def count_turns(kind, train):
    """How many turns make a train one that brings roads of all lengths round in one."""
    check_kind(kind)
    check_train(kind, train)
    return len(wishes(kind, train))


def first_turns(kind, train):
    """The first turns that make a train one that brings roads of all lengths round in one, or None."""
    check_kind(kind)
    check_train(kind, train)
    found = wishes(kind, train)
    return found[0] if found else None


def wished_kind(kind, train, turns):
    """The kind of which each sort that comes of the train's walkers turns by its number."""
    check_kind(kind)
    check_train(kind, train)
    sorts = sorts_coming(kind, train)
    check_turns(kind, sorts, turns)
    rows = list(kind)
    for sort, turn in zip(sorts, turns):
        rows[sort] = tuple([((setting + turn) % len(kind[0]), behind)
                            for setting, (_, behind) in enumerate(kind[sort])])
    return tuple(rows)
