"""Classes of trains that leave all roads alike."""

from latchroads.checks import check_number, check_train
from latchroads.errors import TooMany
from latchroads.kinds import all_rows, check_kind
from latchroads.sortlikes import classes_by, lasting_marks
from latchroads.walks import through_latch

MOST_WALKERS = 4


def train_marks(kind, trains):
    """Marks that are alike for alike trains, of a list with all trains that come of them."""
    places = {train: place for place, train in enumerate(trains)}
    leaves = []
    steps = []
    for train in trains:
        row = [through_latch(kind, train, setting) for setting in range(len(kind[0]))]
        leaves.append(tuple([left for left, _ in row]))
        steps.append(tuple([places[out] for _, out in row]))
    marks, _ = lasting_marks(leaves, steps)
    return marks


def classes_of_trains(kind, many):
    """The ascending list of the classes of the trains of so many walkers."""
    check_kind(kind)
    check_number(many, 0, None)
    if many > MOST_WALKERS:
        raise TooMany(MOST_WALKERS)
    trains = all_rows(len(kind), many)
    return classes_by(train_marks(kind, trains), trains)


def least_alike(kind, train):
    """The least train that is alike to a train."""
    check_kind(kind)
    check_train(kind, train)
    if len(train) > MOST_WALKERS:
        raise TooMany(MOST_WALKERS)
    trains = []
    for many in range(len(train) + 1):
        trains = trains + all_rows(len(kind), many)
    marks = train_marks(kind, trains)
    return trains[marks.index(marks[trains.index(train)])]
