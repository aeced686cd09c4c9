"""The turns of sorts, and the counts and sums of turning trains, depth by depth."""

from latchroads.checks import check_number, check_sort, check_train
from latchroads.comings import sorts_coming
from latchroads.errors import NotTurning
from latchroads.kinds import check_kind

DEEPEST = 10 ** 30


def row_turn(row):
    """The number by which a sort turns, told by its row of pairs, or None."""
    turn, _ = row[0]
    if all([left == (setting + turn) % len(row) for setting, (left, _) in enumerate(row)]):
        return turn
    return None


def check_turning(kind, train):
    """Raises NotTurning for a train that is no turning one."""
    if None in [row_turn(kind[sort]) for sort in sorts_coming(kind, train)]:
        raise NotTurning("a sort comes of the train that does not turn")


def next_counts(kind, counts):
    """The counts one depth further on."""
    behind_all = [0] * len(kind)
    for many, row in zip(counts, kind):
        for _, behind in row:
            behind_all[behind] += many
    return tuple([many % len(kind[0]) for many in behind_all])


def counts_told(kind, train):
    """The list of all unlike counts, depth by depth, and the first depth whose counts come again."""
    counts = tuple([train.count(sort) % len(kind[0]) for sort in range(len(kind))])
    depths = {}
    told = []
    while counts not in depths:
        depths[counts] = len(told)
        told.append(counts)
        counts = next_counts(kind, counts)
    return told, depths[counts]


def counts_deep(kind, train, depth):
    """What counts_at returns, for arguments that are checked."""
    told, again = counts_told(kind, train)
    if depth < again:
        return told[depth]
    return told[again + (depth - again) % (len(told) - again)]


def sum_of(kind, sorts, counts):
    """The sum over some sorts, all of which turn, of their counts times the numbers by which they turn."""
    return sum([counts[sort] * row_turn(kind[sort]) for sort in sorts]) % len(kind[0])


def turn_of(kind, sort):
    """The number by which a sort turns, or None."""
    check_kind(kind)
    check_sort(kind, sort)
    return row_turn(kind[sort])


def counts_at(kind, train, depth):
    """The counts of a turning train at a depth."""
    check_kind(kind)
    check_train(kind, train)
    check_turning(kind, train)
    check_number(depth, 0, DEEPEST)
    return counts_deep(kind, train, depth)


def sum_at(kind, train, depth):
    """The sum of a turning train at a depth."""
    check_kind(kind)
    check_train(kind, train)
    check_turning(kind, train)
    check_number(depth, 0, DEEPEST)
    return sum_of(kind, sorts_coming(kind, train), counts_deep(kind, train, depth))


def counts_come(kind, train):
    """How many depths are ahead of the first one whose counts come again, and how many later these do so first."""
    check_kind(kind)
    check_train(kind, train)
    check_turning(kind, train)
    told, again = counts_told(kind, train)
    return again, len(told) - again
