"""Checks of arguments; each raises the error that the document names."""

from latchroads.errors import InvalidNumber, InvalidRoad, InvalidSetting
from latchroads.errors import InvalidSort, InvalidTrain
from latchroads.kinds import is_index, is_integer, is_row


def check_train(kind, train):
    """Raises InvalidTrain for what is no train of the kind."""
    if not is_row(train, len(kind)):
        raise InvalidTrain("this is no train of the kind")


def check_road(kind, road):
    """Raises InvalidRoad for what is no road of the kind."""
    if not is_row(road, len(kind[0])):
        raise InvalidRoad("this is no road of the kind")


def check_sort(kind, sort):
    """Raises InvalidSort for what is no sort of the kind."""
    if not is_index(sort, len(kind)):
        raise InvalidSort("this is no sort of the kind")


def check_setting(kind, setting):
    """Raises InvalidSetting for what is no setting of the kind."""
    if not is_index(setting, len(kind[0])):
        raise InvalidSetting("this is no setting of the kind")


def check_number(value, least, most):
    """Raises InvalidNumber for what is no integer from the least one to the greatest one."""
    if not is_integer(value) or not least <= value <= most:
        raise InvalidNumber("this is no integer in the range")
