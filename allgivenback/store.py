"""The store: slots, extents, pieces and mapped spaces over one Buddies object."""

from allgivenback.basics import HEAP, NoRoom, Unknown, is_user
from allgivenback.buddies import Buddies, is_no_block
from allgivenback.checks import is_exactly, is_flag, is_paper, need, need_whole
from allgivenback.deeds import as_deed, as_trial
from allgivenback.drawers import FIRST_LABEL, MOST_LOT, Drawers, is_no_drawer
from allgivenback.extents import MOST_AGE, Extents, is_no_extent
from allgivenback.heaps import Heap, start_heap
from allgivenback.layout import given_in, has_map
from allgivenback.mapped import MOST_VIRTUAL, Mapped, is_slow_zone
from allgivenback.marks import first_broken_mark, is_no_piece
from allgivenback.slabs import MOST_SPARE
from allgivenback.slots import class_of
from allgivenback.spans import MOST_ALIGN, MOST_ORDER, MOST_PLACE, need_align

EXTENT_LABEL = 200
HEAP_LABEL = 300
SPACE_LABEL = 401
MOST_HEAP = 6
SLOT = "slot"
WHOLE = "extent"
PIECE = "piece"


def route_of(width, size, align, arena, heap):
    """The part that serves, and its class, its number of places or its numbers of pages and of pages to align to."""
    number = class_of(width, size, align)
    if number is not None:
        return (SLOT, number, None)
    if size <= (width << heap) // 4 and align <= width:
        return (PIECE, size, None)
    count = (size + width - 1) // width
    step = max(1, align // width)
    if count > 1 << arena or step > 1 << arena:
        raise Unknown("size")
    return (WHOLE, count, step)


def route_here(part, label, pages):
    """The route by which a span in a block with the label stays as it is, or None if there is none."""
    if part == SLOT:
        return (SLOT, label - FIRST_LABEL, None)
    if part == WHOLE:
        return (WHOLE, pages, 1)
    return None


def beds_in(image):
    """A list of the spans of the beds of all heaps, ascending."""
    width = image[0]
    return [(page * width, width << order) for page, order in given_in(image, HEAP_LABEL)]


class Store:
    """The keepers of one Buddies object."""

    def __init__(self, buddies, *, lot=2, spare=1, arena=3, limit=4, heap=2, pages=8, slow=0, zone=1):
        need(isinstance(buddies, Buddies), "buddies")
        zone_rows = buddies.zone_rows()
        need_whole(lot, 1, MOST_LOT, "lot")
        need_whole(spare, 0, MOST_SPARE, "spare")
        need_whole(arena, 0, MOST_ORDER, "arena")
        need_whole(limit, 0, MOST_AGE, "limit")
        need_whole(heap, 1, MOST_HEAP, "heap")
        need_whole(pages, 1, MOST_VIRTUAL, "pages")
        need(is_slow_zone(zone_rows, slow), "slow")
        need_whole(zone, 1, len(zone_rows), "zone")
        self.buddies = buddies
        self.drawers = Drawers(buddies, lot=lot, spare=spare, zone=zone)
        self.extents = Extents(buddies, EXTENT_LABEL, order=arena, limit=limit, zone=zone)
        self.spaces = Mapped(buddies, SPACE_LABEL, pages=pages, slow=slow, zone=zone)
        self._ground = buddies.ground
        self._arena = arena
        self._heap = heap
        self._zone = zone

    def _need_place(self, start):
        """Raises BadValue unless the argument is a place of the ground."""
        need_whole(start, 0, self._ground.top - 1, "start")

    def _route(self, size, align):
        """The route of a size and an alignment; Unknown if there is none."""
        return route_of(self._ground.width, size, align, self._arena, self._heap)

    def take(self, size, holder, *, align=1, urgent=False):
        """Gives the holder a span of at least so many places and returns it."""
        need_whole(size, 1, MOST_PLACE, "size")
        need(is_user(holder), "holder")
        need_align(align, MOST_ALIGN, "align")
        need(is_flag(urgent), "urgent")
        route = self._route(size, align)
        return as_deed(self._ground, lambda: self._take(route, size, holder, align, urgent))

    def _take(self, route, size, holder, align, urgent):
        """Takes a span on the route, and once more after the store has settled if there was no room."""
        try:
            return self._take_on(route, size, holder, align, urgent)
        except NoRoom:
            self.settle()
        return self._take_on(route, size, holder, align, urgent)

    def _take_on(self, route, size, holder, align, urgent):
        """Takes a span on the route."""
        part, count, step = route
        if part == SLOT:
            return self.drawers.take(size, holder, align=align, urgent=urgent)
        if part == PIECE:
            return self._take_piece(size, holder, align, urgent)
        return self.extents.take(count, holder, align=step, urgent=urgent)

    def _take_piece(self, size, holder, align, urgent):
        """Takes a piece of the first heap that has room, or of a new one."""
        papers = []
        for start, count in self.heap_beds():
            try:
                return Heap(self._ground, start, count).take(size, holder, align=align)
            except NoRoom as refusal:
                papers.append((start, refusal.paper))
        heap = self._new_heap(tuple(papers), urgent)
        return heap.take(size, holder, align=align)

    def _new_heap(self, papers, urgent):
        """Makes a heap in a new block and returns it."""
        try:
            start, count = self.buddies.take(self._heap, HEAP_LABEL, HEAP, zone=self._zone, urgent=urgent)
        except NoRoom as refusal:
            raise NoRoom(("heaps", papers, refusal.paper)) from None
        return start_heap(self._ground, start, count)

    def _part_at(self, start):
        """The part in whose given block the place lies, its keeper, and the first place and label of that block."""
        block = self.buddies.block_at(start)
        if block is None:
            raise Unknown("start")
        page, order, label = block
        low = page * self._ground.width
        if label == EXTENT_LABEL:
            return (WHOLE, self.extents, low, label)
        if label == HEAP_LABEL:
            return (PIECE, Heap(self._ground, low, self._ground.width << order), low, label)
        # The drawers know their own labels and refuse all others.
        return (SLOT, self.drawers, low, label)

    def give_back(self, start, holder):
        """Gives a span back to its part and returns it."""
        self._need_place(start)
        need(is_user(holder), "holder")
        return as_deed(self._ground, lambda: self._give_back(start, holder))

    def _give_back(self, start, holder):
        """Does what give_back tells, once the arguments are looked at."""
        part, keeper, low, _ = self._part_at(start)
        span = keeper.give_back(start, holder)
        if part == PIECE and keeper.is_empty():
            self.buddies.give_back(low, HEAP)
        return span

    def resize(self, start, holder, size):
        """Gives a span another size, at the same place or at a new one, and returns the new span."""
        self._need_place(start)
        need(is_user(holder), "holder")
        need_whole(size, 1, MOST_PLACE, "size")
        return as_deed(self._ground, lambda: self._resize(start, holder, size))

    def _resize(self, start, holder, size):
        """Does what resize tells, once the arguments are looked at."""
        # All checks of giving back come first, and nobody knows them better than the giving back.
        span = as_trial(self._ground, lambda: self._give_back(start, holder))
        part, keeper, _, label = self._part_at(start)
        route = self._route(size, 1)
        if route == route_here(part, label, span[1] // self._ground.width):
            return span
        if part == PIECE and route[0] == PIECE:
            try:
                return keeper.resize(start, holder, size)
            except NoRoom:
                # The heap has no room, but the store may have it.
                pass
        new = self._take(route, size, holder, 1, False)
        words = self._ground.image()[2][start:start + min(span[1], new[1])]
        self._ground.write_row(new[0], words, holder)
        self._give_back(start, holder)
        return new

    def pass_to(self, start, holder, taker):
        """Passes a whole span on to a user, with its words, and returns it."""
        self._need_place(start)
        need(is_user(holder), "holder")
        need(is_user(taker), "taker")
        return self._part_at(start)[1].pass_to(start, holder, taker)

    def handed(self):
        """A list of tuples (start, size, holder, part) of all handed-out spans, ascending."""
        rows = [row + (SLOT,) for row in self.drawers.handed()] + [row + (WHOLE,) for row in self.extents.handed()]
        for start, size in self.heap_beds():
            rows.extend([row + (PIECE,) for row in Heap(self._ground, start, size).handed()])
        return sorted(rows)

    def heap_beds(self):
        """A list of the spans of the beds of all heaps, ascending."""
        return beds_in(self._ground.image())

    def settle(self):
        """Gives back what waits in the drawers and caches and the free arenas; returns the number of slots flushed."""
        return as_deed(self._ground, lambda: self._settle())

    def _settle(self):
        """Does what settle tells."""
        count = self.drawers.settle()
        self.extents.shrink()
        return count

    def tick(self):
        """Lets the free pages of the extents grow older, and returns the first pages of the arenas given back."""
        return self.extents.tick()

    def first_broken(self):
        """The first broken word of the drawers, else of the extents, else of the heaps, or None."""
        found = self.drawers.first_broken()
        if found is None:
            found = self.extents.first_broken()
        if found is not None:
            return found
        image = self._ground.image()
        for start, size in beds_in(image):
            found = first_broken_mark(image, start, size)
            if found is not None:
                return found
        return None


def is_heap_row(image, row, bed, size, align):
    """True if the row shows that the heap in the bed has no room."""
    if not isinstance(row, tuple) or len(row) != 2 or not is_exactly(row[0], bed[0]):
        return False
    return is_no_piece(image, bed[0], bed[1], row[1], size, align=align)


def is_no_heap(image, paper, size, align, heap, zone, urgent):
    """True if the paper shows that no heap has room and the buddies have no block for a new one."""
    if not is_paper(paper, "heaps", 3):
        return False
    _, rows, inner = paper
    beds = beds_in(image)
    if not isinstance(rows, tuple) or len(rows) != len(beds):
        return False
    if any([bed[1] != image[0] << heap for bed in beds]):
        return False
    if not all([is_heap_row(image, row, bed, size, align) for row, bed in zip(rows, beds)]):
        return False
    return is_no_block(image, heap, inner, zone=zone, urgent=urgent)


def is_no_room(image, paper, size, *, align=1, arena=3, heap=2, zone=1, urgent=False):
    """True if the paper shows that there is no room on the route of the size and the alignment."""
    need(has_map(image), "image")
    need_whole(size, 1, MOST_PLACE, "size")
    need_align(align, MOST_ALIGN, "align")
    need_whole(arena, 0, MOST_ORDER, "arena")
    need_whole(heap, 1, MOST_HEAP, "heap")
    need_whole(zone, 1, image[2][1], "zone")
    need(is_flag(urgent), "urgent")
    try:
        part, count, step = route_of(image[0], size, align, arena, heap)
    except Unknown:
        return False
    if part == SLOT:
        return is_no_drawer(image, paper, zone=zone, urgent=urgent) and paper[1] == count
    if part == PIECE:
        return is_no_heap(image, paper, size, align, heap, zone, urgent)
    right = is_no_extent(image, paper, count, align=step, order=arena, zone=zone, urgent=urgent)
    return right and paper[1] == EXTENT_LABEL
