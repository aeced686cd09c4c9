"""Checks of arguments; each raises the error that the document names."""

from latchroads.errors import InvalidNumber, InvalidRoad, InvalidSetting
from latchroads.errors import InvalidSort, InvalidTrain, UnlikeSettings
from latchroads.kinds import check_kind, is_index, is_integer, is_row

FEW_WALKERS = 6
FEW_LATCHES = 8


def check_train(kind, train):
    """Raises InvalidTrain for what is no train of the kind."""
    if not is_row(train, len(kind)):
        raise InvalidTrain("this is no train of the kind")


def check_road(kind, road):
    """Raises InvalidRoad for what is no road of the kind."""
    if not is_row(road, len(kind[0])):
        raise InvalidRoad("this is no road of the kind")


def check_few_walkers(kind, train):
    """Raises InvalidTrain for what is no train of the kind with few walkers."""
    check_train(kind, train)
    if len(train) > FEW_WALKERS:
        raise InvalidTrain("this train has too many walkers")


def check_few_latches(kind, road):
    """Raises InvalidRoad for what is no road of the kind with few latches."""
    check_road(kind, road)
    if len(road) > FEW_LATCHES:
        raise InvalidRoad("this road has too many latches")


def check_sort(kind, sort):
    """Raises InvalidSort for what is no sort of the kind."""
    if not is_index(sort, len(kind)):
        raise InvalidSort("this is no sort of the kind")


def check_setting(kind, setting):
    """Raises InvalidSetting for what is no setting of the kind."""
    if not is_index(setting, len(kind[0])):
        raise InvalidSetting("this is no setting of the kind")


def check_number(value, least, most):
    """Raises InvalidNumber for what is no integer from the least one to the greatest one, if there is one."""
    if not is_integer(value) or value < least:
        raise InvalidNumber("this is no integer in the range")
    if most is not None and value > most:
        raise InvalidNumber("this is no integer in the range")


def check_beside(kind, beside):
    """Raises InvalidKind for what is no kind, UnlikeSettings for one that is not beside the first one."""
    check_kind(beside)
    if len(beside[0]) != len(kind[0]):
        raise UnlikeSettings("the kinds have unlike numbers of settings")
