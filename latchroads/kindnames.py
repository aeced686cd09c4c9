"""Kinds whose settings and sorts have other names."""

from latchroads.errors import InvalidOrder, TooMany
from latchroads.kinds import check_kind, is_row

MOST_NAMES = 4


def orders_of(many):
    """The list of all orders of a number, ascending."""
    orders = [()]
    for _ in range(many):
        orders = [(*order, place) for order in orders for place in range(many) if place not in order]
    return orders


def check_order(value, many):
    """Raises InvalidOrder for what is no order of a number."""
    if not is_row(value, many) or sorted(value) != list(range(many)):
        raise InvalidOrder("this is no order of the number")


def renamed(kind, settings, sorts):
    """What named_kind returns, for arguments that are checked."""
    rows = [[None] * len(settings) for _ in sorts]
    for sort, row in enumerate(kind):
        for setting, (left, behind) in enumerate(row):
            rows[sorts[sort]][settings[setting]] = (settings[left], sorts[behind])
    return tuple([tuple(row) for row in rows])


def named_kind(kind, settings, sorts):
    """The kind named by an order of its settings and by one of its sorts."""
    check_kind(kind)
    check_order(settings, len(kind[0]))
    check_order(sorts, len(kind))
    return renamed(kind, settings, sorts)


def check_few_names(kind):
    """Raises TooMany for a kind with more settings, or sorts, than are named in all orders."""
    if len(kind) > MOST_NAMES or len(kind[0]) > MOST_NAMES:
        raise TooMany(MOST_NAMES)


def names_from(kind, other):
    """The list of all pairs of orders by which the first kind is named to be the other one, ascending."""
    pairs = [(settings, sorts) for settings in orders_of(len(kind[0])) for sorts in orders_of(len(kind))]
    return [pair for pair in pairs if renamed(kind, pair[0], pair[1]) == other]


def names_between(kind, other):
    """The first pair of orders by which the first kind is named to be the other one, or None."""
    check_kind(kind)
    check_kind(other)
    check_few_names(kind)
    check_few_names(other)
    pairs = names_from(kind, other)
    return pairs[0] if pairs else None


def own_names(kind):
    """How many pairs of orders name a kind to be itself."""
    check_kind(kind)
    check_few_names(kind)
    return len(names_from(kind, kind))
