"""The checks of arguments that all modules share."""

from allgivenback.basics import BadValue, MOST_WORD, is_whole


def need(holds, parameter):
    """Raises BadValue with the parameter's name unless the condition holds."""
    if not holds:
        raise BadValue(parameter)


def need_whole(value, low, high, parameter):
    """Raises BadValue unless the value is an integer low..high."""
    if not is_whole(value) or not low <= value <= high:
        raise BadValue(parameter)


def is_flag(value):
    """True if the value is True or False."""
    return value is True or value is False


def is_row(value):
    """True if the value is a list or a tuple."""
    return isinstance(value, (list, tuple))


def is_word(value):
    """True if the value is an integer that a place can hold."""
    return is_whole(value) and 0 <= value <= MOST_WORD


def is_paper(value, word, count):
    """True if the value is a tuple of so many values, of which the first is the word."""
    return isinstance(value, tuple) and len(value) == count and is_exactly(value[0], word)


def is_exactly(value, due):
    """True if the value is the same as the one due, which consists of tuples, texts and integers."""
    if isinstance(due, tuple):
        if not isinstance(value, tuple) or len(value) != len(due):
            return False
        return all([is_exactly(one, other) for one, other in zip(value, due)])
    if isinstance(due, str):
        return isinstance(value, str) and value == due
    return is_whole(value) and value == due
