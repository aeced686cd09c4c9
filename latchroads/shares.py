"""The greatest and the least share of latches that a train changes."""

from math import gcd

from latchroads.aparts import longest_walks, way_into_ring
from latchroads.changes import SIDES, change_web, check_side, greatest_in, sign_of, weighed_rows
from latchroads.checks import check_train
from latchroads.kinds import check_kind


def greatest_share(rows):
    """The greatest share of the weights of a ring, as a pair in its least terms."""
    # This is Karp's way: for the index with the greatest least mean of the steps
    # between some number of them and as many as there are indices.
    many = len(rows)
    sums = greatest_in(rows, many)
    best = None
    for at in range(many):
        least = None
        for steps in range(many):
            mean = (sums[many][at] - sums[steps][at], many - steps)
            if least is None or mean[0] * least[1] < least[0] * mean[1]:
                least = mean
        if best is None or least[0] * best[1] > best[0] * least[1]:
            best = least
    common = gcd(best[0], best[1])
    return best[0] // common, best[1] // common


def with_one_step(rows, sums):
    """The greatest sums to each index with one step more, or with none; None where no walk has come yet."""
    longer = list(sums)
    for found, row in zip(sums, rows):
        if found is not None:
            for to, weight in row:
                if longer[to] is None or longer[to] < found + weight:
                    longer[to] = found + weight
    return longer


def greatest_sums(rows):
    """For each index the greatest sum of the weights of a walk to it from the index 0; None without bound."""
    sums = [0] + [None] * (len(rows) - 1)
    # Without a ring of more than 0 no walk need come to an index twice.
    for _ in rows:
        longer = with_one_step(rows, sums)
        if longer == sums:
            return sums
        sums = longer
    return None


def less_share(rows, share):
    """The steps weighed so that rings of the greatest share weigh 0, and the others less."""
    upper, lower = share
    return [[(to, lower * weight - upper) for to, weight in row] for row in rows]


def share_ring_of(rows, share):
    """Any ring, with pairs (index, place of the step), that has the greatest share."""
    rest = less_share(rows, share)
    sums = greatest_sums(rest)
    # Just the rings of that share have only steps that weigh what the sums at their ends differ by.
    tight = [[(setting, to) for setting, (to, weight) in enumerate(row) if sums[to] == sums[at] + weight]
             for at, row in enumerate(rest)]
    walks = longest_walks([[to for _, to in row] for row in tight])
    _, ring = way_into_ring(tight, walks, walks.index(None))
    return ring


def weighed_web(kind, train, side):
    """The sign of a side, and the steps of the web of a train weighed by it."""
    sign = sign_of(side)
    return sign, weighed_rows(change_web(kind, train), sign)


def share_of(kind, train, side):
    """The greatest or the least share."""
    check_kind(kind)
    check_train(kind, train)
    check_side(side, SIDES)
    sign, rows = weighed_web(kind, train, side)
    upper, lower = greatest_share(rows)
    return sign * upper, lower


def share_ring(kind, train, side):
    """Any ring that has the greatest or the least share."""
    check_kind(kind)
    check_train(kind, train)
    check_side(side, SIDES)
    _, rows = weighed_web(kind, train, side)
    return share_ring_of(rows, greatest_share(rows))


def share_heights(kind, train, side):
    """Any heights for the greatest or the least share."""
    check_kind(kind)
    check_train(kind, train)
    check_side(side, SIDES)
    sign, rows = weighed_web(kind, train, side)
    # Of all heights these, told from the index 0 on, hold how far counts are from the share, too.
    sums = greatest_sums(less_share(rows, greatest_share(rows)))
    return tuple([sign * found for found in sums])


def most_changed(kind, train):
    """The greatest number of latches that a train changes on any road, or None."""
    check_kind(kind)
    check_train(kind, train)
    _, rows = weighed_web(kind, train, "most")
    sums = greatest_sums(rows)
    if sums is None:
        return None
    return max(sums)


def surely_changed(kind, train):
    """The least number such that each road of so many latches is changed somewhere, or None."""
    check_kind(kind)
    check_train(kind, train)
    web = change_web(kind, train)
    walks = longest_walks([[to for to, change in row if change == 0] for row in web])
    if walks[0] is None:
        return None
    return walks[0] + 1
