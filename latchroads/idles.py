"""Walkers that can be left out of a train."""

from latchroads.checks import check_train
from latchroads.exchanges import check_walkers
from latchroads.kinds import check_kind
from latchroads.trainlots import two_alike

MOST_WALKERS = 8


def check_idle_train(kind, train):
    """Checks a kind, and a train of it that is not too long."""
    check_kind(kind)
    check_train(kind, train)
    check_walkers(train, MOST_WALKERS)


def stretches_idle(kind, train, known):
    """What idle_stretches returns, for arguments that are checked; it is kept of each stretch whether it is idle."""
    found = []
    for begin in range(len(train)):
        for end in range(begin + 1, len(train) + 1):
            stretch = train[begin:end]
            if stretch not in known:
                known[stretch] = two_alike(kind, stretch, ())
            if known[stretch]:
                found.append((begin, end))
    return found


def is_idle(kind, train):
    """Whether a train is idle."""
    check_idle_train(kind, train)
    return two_alike(kind, train, ())


def idle_stretches(kind, train):
    """The ascending list of the idle stretches of a train."""
    check_idle_train(kind, train)
    return stretches_idle(kind, train, {})


def rests_of(kind, train):
    """The ascending list of the rests of a train."""
    check_idle_train(kind, train)
    met = {train: True}
    waiting = [train]
    rests = []
    known = {}
    while waiting:
        first = waiting.pop()
        stretches = stretches_idle(kind, first, known)
        if not stretches:
            rests.append(first)
        for begin, end in stretches:
            rest = first[:begin] + first[end:]
            if rest not in met:
                met[rest] = True
                waiting.append(rest)
    return sorted(rests)
