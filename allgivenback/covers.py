"""Windows in a range, and the covers that show that none of them is free."""

from allgivenback.basics import is_whole
from allgivenback.checks import need, need_whole
from allgivenback.places import Places, index_upto
from allgivenback.spans import align_up, need_align

MOST_RANGE = 20000
MOST_WINDOW_ALIGN = 16384


def need_range(low, high, size):
    """Raises BadValue unless the three tell the range and the size of windows."""
    need_whole(low, 0, MOST_RANGE, "low")
    need_whole(high, low, MOST_RANGE, "high")
    need_whole(size, 1, MOST_RANGE, "size")


def windows(low, high, size, *, align=1):
    """The starts of the windows, ascending."""
    need_range(low, high, size)
    need_align(align, MOST_WINDOW_ALIGN, "align")
    return list(range(align_up(low, align), high - size + 1, align))


def last_upto(rows, place):
    """The greatest place of the ascending spans that is not above the place, or -1."""
    at = index_upto(rows, place)
    if at < 0:
        return -1
    return min(place, rows[at][0] + rows[at][1] - 1)


def least_cover(low, high, size, held, *, align=1):
    """A cover of the windows with the fewest held places, or None."""
    need_range(low, high, size)
    need(isinstance(held, Places), "held")
    need_align(align, MOST_WINDOW_ALIGN, "align")
    rows = held.spans
    taken = []
    last = -1
    for start in windows(low, high, size, align=align):
        # The windows ascend, so of the taken places only the last can lie in this one.
        if last < start:
            last = last_upto(rows, start + size - 1)
            if last < start:
                return None
            taken.append(last)
    return tuple(taken)


def all_met(starts, size, cover):
    """True if each window, in ascending order, contains a place of the ascending cover."""
    at = 0
    for start in starts:
        while at < len(cover) and cover[at] < start:
            at = at + 1
        if at == len(cover) or cover[at] >= start + size:
            return False
    return True


def is_cover(low, high, size, held, cover, *, align=1):
    """True if the cover shows that no window is free."""
    need_range(low, high, size)
    need(isinstance(held, Places), "held")
    need_align(align, MOST_WINDOW_ALIGN, "align")
    if not isinstance(cover, tuple):
        return False
    last = low - 1
    for place in cover:
        if not is_whole(place) or not last < place < high or place not in held:
            return False
        last = place
    return all_met(windows(low, high, size, align=align), size, cover)
