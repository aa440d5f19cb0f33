"""The checks of arguments that all modules share."""

from allgivenback.basics import BadValue, MOST_WORD, is_whole


def need(holds, parameter):
    """Raises BadValue with the parameter's name unless the condition holds."""
    if not holds:
        raise BadValue(parameter)


def need_whole(value, low, high, parameter):
    """Raises BadValue unless the value is an integer low..high."""
    if not is_whole(value) or not low <= value <= high:
        raise BadValue(parameter)


def is_flag(value):
    """True if the value is True or False."""
    return value is True or value is False


def is_row(value):
    """True if the value is a list or a tuple."""
    return isinstance(value, (list, tuple))


def is_word(value):
    """True if the value is an integer that a place can hold."""
    return is_whole(value) and 0 <= value <= MOST_WORD
