"""Kinds that are turned about, and kinds that are worn down."""

from latchroads.kinds import check_kind
from latchroads.leastkinds import sorts_made_one
from latchroads.sortlikes import row_marks


def turned_about(kind):
    """What turned_kind returns, for a kind that is checked."""
    return tuple([tuple([(row[setting][1], row[setting][0]) for row in kind]) for setting in range(len(kind[0]))])


def has_alike_sorts(kind):
    """Whether two sorts of a kind are alike."""
    return len(set(row_marks(kind))) < len(kind)


def worn(kind):
    """What is_worn returns, for a kind that is checked."""
    # Two settings are alike just if they are so as sorts of the kind turned about.
    return not has_alike_sorts(kind) and not has_alike_sorts(turned_about(kind))


def made_one(kind):
    """The kind whose alike sorts are made one."""
    return sorts_made_one(kind, row_marks(kind))


def turned_kind(kind):
    """The kind turned about."""
    check_kind(kind)
    return turned_about(kind)


def is_worn(kind):
    """Whether a kind is worn."""
    check_kind(kind)
    return worn(kind)


def worn_down(kind):
    """The kind worn down."""
    check_kind(kind)
    while not worn(kind):
        kind = turned_about(made_one(turned_about(made_one(kind))))
    return kind
