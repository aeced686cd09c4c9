"""Trains, walkers and sorts that can be exchanged."""

from latchroads.checks import FEW_WALKERS, check_train
from latchroads.errors import TooMany
from latchroads.kinds import check_kind
from latchroads.trainlots import alike_marks, two_alike


def check_walkers(train, most):
    """Raises TooMany for a train with more walkers than so many."""
    if len(train) > most:
        raise TooMany(most)


def exchange(kind, train, other):
    """Whether two trains can be exchanged."""
    return two_alike(kind, train + other, other + train)


def can_exchange(kind, train, other):
    """Whether two trains can be exchanged."""
    check_kind(kind)
    check_train(kind, train)
    check_train(kind, other)
    check_walkers(train, FEW_WALKERS)
    check_walkers(other, FEW_WALKERS)
    return exchange(kind, train, other)


def train_orders(train):
    """The ascending list of all trains of the same walkers, in some order."""
    orders = [()]
    for _ in train:
        orders = [(*order, sort) for order in orders for sort in sorted(set(train))
                  if order.count(sort) < train.count(sort)]
    return orders


def like_orders(kind, train):
    """The ascending list of all trains of the same walkers, in some order, that are alike to a train."""
    check_kind(kind)
    check_train(kind, train)
    check_walkers(train, FEW_WALKERS)
    orders = train_orders(train)
    marks = alike_marks(kind, orders)
    wanted = marks[orders.index(train)]
    return [order for order, mark in zip(orders, marks) if mark == wanted]


def exchanging_sorts(kind):
    """For each sort the list of the sorts with which it can be exchanged, itself too."""
    sorts = list(range(len(kind)))
    return [[two for two in sorts if exchange(kind, (one,), (two,))] for one in sorts]


def led_orders(kind, train):
    """The ascending list of the orders to which neighbouring walkers that can be exchanged lead a train."""
    check_kind(kind)
    check_train(kind, train)
    check_walkers(train, FEW_WALKERS)
    fit = exchanging_sorts(kind)
    met = {train: True}
    waiting = [train]
    while waiting:
        order = waiting.pop()
        for at in range(len(order) - 1):
            led = order[:at] + (order[at + 1], order[at]) + order[at + 2:]
            if order[at + 1] in fit[order[at]] and led not in met:
                met[led] = True
                waiting.append(led)
    return sorted(met)


def goes_with(fit, lot, sort):
    """Whether a sort can be exchanged with all of a lot of sorts."""
    return all([other in fit[sort] for other in lot])


def is_whole(fit, lot):
    """Whether no further sort can be put to a lot of sorts."""
    return not any([sort not in lot and goes_with(fit, lot, sort) for sort in range(len(fit))])


def exchange_lots(kind):
    """The ascending list of the ascending tuples of sorts, as great as can be, of which any two can be exchanged."""
    check_kind(kind)
    fit = exchanging_sorts(kind)
    lots = [()]
    for sort in range(len(kind)):
        lots = lots + [(*lot, sort) for lot in lots if goes_with(fit, lot, sort)]
    return sorted([lot for lot in lots if is_whole(fit, lot)])
