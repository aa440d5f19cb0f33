"""Regions: items one behind the other in a bed, given back from the last one down to a mark."""

from allgivenback.basics import NoRoom, REGION, Unknown, is_user
from allgivenback.beds import MOST_BED_ALIGN, need_bed, need_bed_in, need_new_bed
from allgivenback.checks import is_exactly, need, need_whole
from allgivenback.deeds import as_deed
from allgivenback.images import MOST_TOP
from allgivenback.spans import align_up, need_align

LEAST_REGION = 2


def start_region(ground, start, size):
    """Makes a new region in a bed and returns it."""
    need_bed(ground, start, size, LEAST_REGION)
    need_new_bed(ground, start, size, REGION)
    ground.write(start, start + 1, REGION)
    return Region(ground, start, size)


class Region:
    """A view of the region in a bed."""

    def __init__(self, ground, start, size):
        need_bed(ground, start, size, LEAST_REGION)
        self._ground = ground
        self._start = start
        self._end = start + size

    def take(self, size, holder, *, align=1):
        """Gives the holder an item behind the last one and returns the span of its payload."""
        need_whole(size, 1, MOST_TOP, "size")
        need(is_user(holder), "holder")
        need_align(align, MOST_BED_ALIGN, "align")
        edge = self.mark()
        place = align_up(edge + 1, align)
        if place + size > self._end:
            raise NoRoom(("region", self._end - edge))
        as_deed(self._ground, lambda: self._put(edge, place, size, holder))
        return (place, size)

    def _put(self, edge, place, size, holder):
        """Puts an item with its payload at the place, behind a filler if there is room before its head."""
        if place - 1 != edge:
            self._ground.write(edge, 2 * (place - 2 - edge), REGION)
        self._ground.write(place - 1, 2 * size + 1, REGION)
        self._ground.pass_on(place, size, REGION, holder)
        self._ground.write(self._start, place + size, REGION)

    def mark(self):
        """The edge: the place behind the last item."""
        return self._ground.word_at(self._start)

    def release(self, mark, holder):
        """Gives back everything from the mark on and returns the number of handed-out items in it."""
        need_whole(mark, 0, self._ground.top, "mark")
        need(is_user(holder), "holder")
        items = self.items_in()
        if mark != self.mark() and mark not in [head for head, _, _ in items]:
            raise Unknown("mark")
        gone = [(head + 1, count) for head, count, used in items if used and head >= mark]
        as_deed(self._ground, lambda: self._drop(gone, mark, holder))
        return len(gone)

    def _drop(self, payloads, mark, holder):
        """Gives back the payloads and clears all places from the mark to the edge."""
        for start, size in payloads:
            self._ground.pass_on(start, size, holder, REGION)
        self._ground.write_row(mark, (self._ground.fill,) * (self.mark() - mark), REGION)
        self._ground.write(self._start, mark, REGION)

    def items_in(self):
        """A list of tuples (head, s, used) of all items, ascending."""
        items = []
        head = self._start + 1
        while head < self.mark():
            word = self._ground.word_at(head)
            items.append((head, word // 2, word % 2 == 1))
            head = head + 1 + word // 2
        return items

    def handed(self):
        """A list of tuples (start, size, holder) of the handed-out items, ascending."""
        return [(head + 1, count, self._ground.holder_at(head + 1)) for head, count, used in self.items_in() if used]


def is_no_item(image, start, size, paper, wanted, *, align=1):
    """True if the paper tells the room of a region that has not enough of it."""
    need_bed_in(image, start, size, LEAST_REGION)
    need_whole(wanted, 1, MOST_TOP, "wanted")
    need_align(align, MOST_BED_ALIGN, "align")
    edge = image[2][start]
    end = start + size
    if image[3][start] != REGION or not start < edge <= end:
        return False
    return is_exactly(paper, ("region", end - edge)) and align_up(edge + 1, align) + wanted > end
