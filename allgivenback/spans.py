"""Spans of places, alignments and the parting of pages into blocks."""

from allgivenback.basics import is_whole
from allgivenback.checks import need, need_whole

MOST_PLACE = 1000000000
MOST_ALIGN = 1073741824
MOST_ORDER = 8
MOST_RUN = 4096


def is_span(value):
    """True if the value is a tuple (start, size) of places."""
    if not isinstance(value, tuple) or len(value) != 2:
        return False
    start, size = value
    if not is_whole(start) or not is_whole(size):
        return False
    return start >= 0 and size >= 1 and start + size <= MOST_PLACE


def is_power(value):
    """True if the value is an integer and a power of two from 1 on."""
    return is_whole(value) and value >= 1 and (value & (value - 1)) == 0


def need_align(value, most, parameter):
    """Raises BadValue unless the value is an alignment up to most."""
    need(is_power(value) and value <= most, parameter)


def end_of(span):
    """The place after the last one of the span."""
    need(is_span(span), "span")
    return span[0] + span[1]


def meet(first, second):
    """The span of the common places, or None."""
    need(is_span(first), "first")
    need(is_span(second), "second")
    low = max(first[0], second[0])
    high = min(end_of(first), end_of(second))
    if low >= high:
        return None
    return (low, high - low)


def overlap(first, second):
    """True if the two spans share a place."""
    return meet(first, second) is not None


def align_down(number, align):
    """The greatest aligned number that is not greater."""
    need_whole(number, 0, MOST_PLACE, "number")
    need_align(align, MOST_ALIGN, "align")
    return number - number % align


def align_up(number, align):
    """The least aligned number that is not less."""
    need_whole(number, 0, MOST_PLACE, "number")
    need_align(align, MOST_ALIGN, "align")
    return number + (-number) % align


def order_of(count):
    """The least k with 2^k >= count."""
    need_whole(count, 1, MOST_PLACE, "count")
    return (count - 1).bit_length()


def power_in(number):
    """The greatest power of two that divides the number."""
    need_whole(number, 1, MOST_PLACE, "number")
    return number & -number


def order_at(page, left):
    """The greatest order of a block that begins at the page and has at most `left` pages."""
    order = MOST_ORDER
    while page % (1 << order) != 0 or 1 << order > left:
        order = order - 1
    return order


def blocks_of(first, count):
    """The run of pages parted into the fewest blocks, as tuples (page, order)."""
    need_whole(first, 0, MOST_RUN, "first")
    need_whole(count, 0, MOST_RUN, "count")
    blocks = []
    page = first
    end = first + count
    while page < end:
        order = order_at(page, end - page)
        blocks.append((page, order))
        page = page + (1 << order)
    return blocks
