"""Trains that leave unlike roads unlike."""

from latchroads.checks import check_train
from latchroads.comings import MOST_TRAINS, least_marked, road_into, sorts_coming, train_web, web_from
from latchroads.kinds import check_kind


def row_loses(row):
    """Whether a sort, told by its row of pairs, loses."""
    return len({left for left, _ in row}) < len(row)


def keeps(kind, train):
    """What does_keep returns, for arguments that are checked."""
    return not any([row_loses(kind[sort]) for sort in sorts_coming(kind, train)])


def least_loss(kind, train):
    """The least road behind which a train leaves unlike settings alike, and what it leaves there, or None."""
    _, lefts, steps = train_web(kind, train, MOST_TRAINS)
    for at, row in enumerate(lefts):
        if len(set(row)) < len(row):
            return road_into(steps, at), row
    return None


def losing_sorts(kind):
    """The ascending tuple of the sorts that lose."""
    check_kind(kind)
    return tuple([sort for sort, row in enumerate(kind) if row_loses(row)])


def does_keep(kind, train):
    """Whether a train keeps."""
    check_kind(kind)
    check_train(kind, train)
    return keeps(kind, train)


def keeps_up_to(kind, train):
    """The greatest number up to which a train keeps, None if it keeps."""
    check_kind(kind)
    check_train(kind, train)
    loss = least_loss(kind, train)
    if loss is None:
        return None
    return len(loss[0])


def two_left_alike(kind, train):
    """The first two unlike roads, of the fewest latches, that a train leaves alike, or None."""
    check_kind(kind)
    check_train(kind, train)
    loss = least_loss(kind, train)
    if loss is None:
        return None
    road, row = loss
    pairs = [(one, two) for two in range(len(row)) for one in range(two) if row[one] == row[two]]
    one, two = min(pairs)
    return road + (one,), road + (two,)


def came_from(left_row, row, at, left):
    """Whether a setting is left by no setting, and the index behind the first one that leaves it."""
    if left not in left_row:
        return True, at
    return False, row[left_row.index(left)]


def never_left(kind, train):
    """The least road that a train never leaves, or None."""
    check_kind(kind)
    check_train(kind, train)
    _, lefts, steps = train_web(kind, train, MOST_TRAINS)
    # Up to the first loss each road left comes of one road alone, so the web can be gone
    # through by the settings left; what it leads to behind a loss is never the least.
    _, marks, ways = web_from(0, len(kind[0]), lambda at, left: came_from(lefts[at], steps[at], at, left), MOST_TRAINS)
    return least_marked(marks, ways)
