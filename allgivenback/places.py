"""Exact sets of places."""

from allgivenback.basics import is_whole
from allgivenback.checks import is_row, need, need_whole
from allgivenback.spans import MOST_ALIGN, MOST_PLACE, align_up, end_of, is_span, need_align

MOST_SPANS = 20000


def merged(rows):
    """The fewest spans, ascending, that make up the places of a list of spans in any order."""
    out = []
    for start, size in sorted(rows):
        if out and start <= out[-1][0] + out[-1][1]:
            first, before = out[-1]
            out[-1] = (first, max(before, start + size - first))
        else:
            out.append((start, size))
    return out


def gaps_in(rows):
    """The spans of all places that are in none of the ascending spans."""
    out = []
    edge = 0
    for start, size in rows:
        if edge < start:
            out.append((edge, start - edge))
        edge = start + size
    if edge < MOST_PLACE:
        out.append((edge, MOST_PLACE - edge))
    return out


def common(mine, others):
    """The spans of the places that are in both of two rows of ascending spans."""
    out = []
    at = 0
    for start, size in mine:
        end = start + size
        while at < len(others) and others[at][0] + others[at][1] <= start:
            at = at + 1
        # The last span of the others may reach into my next one, so `at` stays before it.
        ahead = at
        while ahead < len(others) and others[ahead][0] < end:
            low = max(start, others[ahead][0])
            high = min(end, others[ahead][0] + others[ahead][1])
            out.append((low, high - low))
            ahead = ahead + 1
    return out


def index_upto(rows, place):
    """The index of the last of the ascending spans that begins at or before the place, or -1."""
    low = 0
    high = len(rows)
    while low < high:
        middle = (low + high) // 2
        if rows[middle][0] <= place:
            low = middle + 1
        else:
            high = middle
    return low - 1


def start_in(span, size, align):
    """The lowest aligned start in the span with `size` places of it, or None."""
    start = align_up(span[0], align)
    if start + size > end_of(span):
        return None
    return start


class Places:
    """A set of places, kept as the fewest ascending spans."""

    def __init__(self, spans=()):
        need(is_row(spans) and len(spans) <= MOST_SPANS, "spans")
        for span in spans:
            need(is_span(span), "spans")
        self._spans = tuple(merged(spans))

    @property
    def spans(self):
        """A new list of the spans, ascending."""
        return list(self._spans)

    @property
    def total(self):
        """The number of places."""
        return sum([span[1] for span in self._spans])

    def __add__(self, other):
        if not isinstance(other, Places):
            return NotImplemented
        return places_of(merged(list(self._spans) + list(other._spans)))

    def __sub__(self, other):
        if not isinstance(other, Places):
            return NotImplemented
        return places_of(common(self._spans, gaps_in(other._spans)))

    def __and__(self, other):
        if not isinstance(other, Places):
            return NotImplemented
        return places_of(common(self._spans, other._spans))

    def __eq__(self, other):
        return isinstance(other, Places) and self._spans == other._spans

    def __contains__(self, x):
        if not is_whole(x):
            return False
        at = index_upto(self._spans, x)
        return at >= 0 and x < self._spans[at][0] + self._spans[at][1]

    def __bool__(self):
        return bool(self._spans)

    def __iter__(self):
        return iter(self._spans)

    def covers(self, span):
        """True if each place of the span is in the set."""
        need(is_span(span), "span")
        at = index_upto(self._spans, span[0])
        return at >= 0 and end_of(span) <= end_of(self._spans[at])

    def first_start(self, size, *, align=1):
        """The lowest aligned start with `size` places of the set, or None."""
        need_whole(size, 1, MOST_PLACE, "size")
        need_align(align, MOST_ALIGN, "align")
        for span in self._spans:
            start = start_in(span, size, align)
            if start is not None:
                return start
        return None

    def best_start(self, size, *, align=1):
        """The lowest such start in the smallest span that has one, or None."""
        need_whole(size, 1, MOST_PLACE, "size")
        need_align(align, MOST_ALIGN, "align")
        best = None
        least = MOST_PLACE + 1
        for span in self._spans:
            start = start_in(span, size, align)
            if start is not None and span[1] < least:
                best = start
                least = span[1]
        return best


def places_of(rows):
    """A Places object of spans that are already the fewest, however many they are."""
    made = Places()
    made._spans = tuple(rows)
    return made
