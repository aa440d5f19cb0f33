"""Caches: slots of one size, cut out of slabs with red places around them."""

from allgivenback.basics import Broken, NOBODY, NoRoom, POISON, RED, SLAB, Unknown, is_holder, is_user, is_whole
from allgivenback.buddies import MOST_LABEL, Buddies, is_no_block
from allgivenback.checks import is_exactly, is_flag, is_paper, need, need_whole
from allgivenback.deeds import as_deed, need_words
from allgivenback.images import are_words
from allgivenback.layout import given_in, has_map
from allgivenback.slots import MOST_SLOT, slab_shape, slot_starts
from allgivenback.spans import MOST_ORDER, need_align

MOST_SPARE = 256


def is_drawer(value):
    """True if the value is the number of a drawer."""
    return is_whole(value) and 11 <= value <= 18


def is_taker(value):
    """True if the value is the number of a user or of a drawer."""
    return is_user(value) or is_drawer(value)


def fits_slot(words, size):
    """True if the value is None or a tuple of as many words as a slot has places."""
    return words is None or (isinstance(words, tuple) and len(words) == size and are_words(words))


def slots_in(image, label, order, size, align):
    """A list of tuples (start, holder) of all slots of the slabs with the label and the order, ascending."""
    rows = []
    for page, each in given_in(image, label):
        if each == order:
            starts = slot_starts(image[0], order, size, align, page)
            rows.extend([(start, image[3][start]) for start in starts])
    return rows


def due_words(image, low, high, starts, ender):
    """The words due in a slab, from its first place to its end; None where any word may stand."""
    due = [RED] * (high - low)
    for start in starts:
        at = start - low
        unused = image[3][start] == SLAB or is_drawer(image[3][start])
        due[at:at + len(ender)] = ender if unused else (None,) * len(ender)
    return due


def broken_in_slab(image, page, order, align, ender):
    """The lowest place of a slab with a word that is not due, as a tuple (place, found, due), or None."""
    low = page * image[0]
    high = low + (image[0] << order)
    starts = slot_starts(image[0], order, len(ender), align, page)
    for place, word in enumerate(due_words(image, low, high, starts, ender), start=low):
        if word is not None and image[2][place] != word:
            return (place, image[2][place], word)
    return None


class Cache:
    """The slots of one size with one label."""

    def __init__(self, buddies, label, size, *, align=1, order=0, spare=1, zone=1, maker=None, ender=None):
        need(isinstance(buddies, Buddies), "buddies")
        ground = buddies.ground
        need_whole(label, 1, MOST_LABEL, "label")
        need_whole(size, 1, MOST_SLOT, "size")
        need_align(align, ground.width, "align")
        need_whole(order, 0, MOST_ORDER, "order")
        need_whole(spare, 0, MOST_SPARE, "spare")
        need_whole(zone, 1, len(buddies.zone_rows()), "zone")
        need(fits_slot(maker, size), "maker")
        need(fits_slot(ender, size), "ender")
        need(slab_shape(ground.width, order, size, align) is not None, "size")
        self._buddies = buddies
        self._ground = ground
        self._label = label
        self._size = size
        self._align = align
        self._order = order
        self._spare = spare
        self._zone = zone
        self._maker = (ground.fill,) * size if maker is None else maker
        self._ender = (POISON,) * size if ender is None else ender

    def take(self, taker, *, urgent=False):
        """Gives a free slot to the taker and returns its span."""
        need(is_taker(taker), "taker")
        need(is_flag(urgent), "urgent")
        return as_deed(self._ground, lambda: self._take(taker, urgent))

    def _take(self, taker, urgent):
        """Does what take tells, once the arguments are looked at."""
        page = self._page_with_room()
        if page is None:
            page = self._new_slab(urgent)
        free = [start for start in self._starts(page) if self._ground.holder_at(start) == SLAB]
        return self._pass(free[0], SLAB, taker)

    def _page_with_room(self):
        """The first page of the slab that serves, or None if no slab has a free slot."""
        rows = self.slabs()
        empty = [page for page, taken in rows if taken == 0]
        partial = [page for page, taken in rows if 0 < taken < len(self._starts(page))]
        usable = partial + empty
        return usable[0] if usable else None

    def _new_slab(self, urgent):
        """Takes a block, cuts it in free slots and returns its first page."""
        try:
            start, size = self._buddies.take(self._order, self._label, SLAB, zone=self._zone, urgent=urgent)
        except NoRoom as refusal:
            pages = tuple([page for page, _ in self.slabs()])
            raise NoRoom(("slots", self._label, pages, refusal.paper)) from None
        page = start // self._ground.width
        starts = self._starts(page)
        self._ground.write_row(start, due_words(self._ground.image(), start, start + size, starts, self._ender), SLAB)
        return page

    def _pass(self, start, giver, taker):
        """Passes a slot on with the words that are due to its taker, and returns its span."""
        to_user = is_user(taker) and not is_user(giver)
        from_user = is_user(giver) and not is_user(taker)
        if to_user:
            need_words(self._ground, start, self._ender, giver)
        self._ground.pass_on(start, self._size, giver, taker)
        if to_user:
            self._ground.write_row(start, self._maker, taker)
        elif from_user or taker == SLAB:
            self._ground.write_row(start, self._ender, taker)
        return (start, self._size)

    def give_back(self, start, giver):
        """Makes a slot free and returns its span."""
        need_whole(start, 0, self._ground.top - 1, "start")
        need(is_taker(giver), "giver")
        return as_deed(self._ground, lambda: self._give_back(start, giver))

    def _give_back(self, start, giver):
        """Does what give_back tells, once the arguments are looked at."""
        page = self._page_of(start)
        if is_user(giver):
            self._need_red(page, start)
        span = self._pass(start, giver, SLAB)
        empty = self._empty_pages()
        if page in empty and len(empty) > self._spare:
            self._drop(empty[-1:])
        return span

    def hand_over(self, start, giver, taker):
        """Passes a slot from a user or drawer to a user or drawer, and returns its span."""
        need_whole(start, 0, self._ground.top - 1, "start")
        need(is_taker(giver), "giver")
        need(is_taker(taker), "taker")
        return as_deed(self._ground, lambda: self._hand_over(start, giver, taker))

    def _hand_over(self, start, giver, taker):
        """Does what hand_over tells, once the arguments are looked at."""
        page = self._page_of(start)
        if is_user(giver) and is_drawer(taker):
            self._need_red(page, start)
        return self._pass(start, giver, taker)

    def _page_of(self, start):
        """The first page of the slab in which a slot starts."""
        block = self._buddies.block_at(start)
        if block is None or block[1:] != (self._order, self._label) or start not in self._starts(block[0]):
            raise Unknown("start")
        return block[0]

    def _need_red(self, page, start):
        """Raises Broken for the lowest red place beside the slot that has another word."""
        low = page * self._ground.width
        end = low + (self._ground.width << self._order)
        starts = self._starts(page)
        first = max([low] + [each + self._size for each in starts if each < start])
        last = min([end] + [each for each in starts if each > start])
        behind = start + self._size
        for place in list(range(first, start)) + list(range(behind, last)):
            found = self._ground.word_at(place)
            if found != RED:
                raise Broken(place, found, RED)

    def shrink(self):
        """Gives back all empty slabs and returns their number."""
        empty = self._empty_pages()
        as_deed(self._ground, lambda: self._drop(empty))
        return len(empty)

    def _drop(self, pages):
        """Gives the slabs with these first pages back to the buddies."""
        for page in pages:
            self._buddies.give_back(page * self._ground.width, SLAB)

    def _starts(self, page):
        """The starts of the slots of the slab with that first page."""
        return slot_starts(self._ground.width, self._order, self._size, self._align, page)

    def _pages(self, image):
        """The first pages of all slabs, ascending."""
        return [page for page, order in given_in(image, self._label) if order == self._order]

    def _empty_pages(self):
        """The first pages of all slabs without a taken slot, ascending."""
        return [page for page, taken in self.slabs() if taken == 0]

    def _slots(self):
        """A list of tuples (start, holder) of all slots, ascending."""
        return slots_in(self._ground.image(), self._label, self._order, self._size, self._align)

    def slabs(self):
        """A list of tuples (page, taken) of all slabs, ascending; taken is the number of taken slots."""
        image = self._ground.image()
        holders = image[3]
        return [
            (page, len([start for start in self._starts(page) if holders[start] != SLAB]))
            for page in self._pages(image)]

    def starts_of(self, holder):
        """The starts of the slots that the holder holds, ascending."""
        need(is_holder(holder) and holder != NOBODY, "holder")
        return [start for start, found in self._slots() if found == holder]

    def slot_at(self, place):
        """The span of the slot that contains the place, or None."""
        need_whole(place, 0, self._ground.top - 1, "place")
        around = [start for start, _ in self._slots() if start <= place < start + self._size]
        return (around[0], self._size) if around else None

    def handed(self):
        """A list of tuples (start, size, holder) of the slots that users hold, ascending."""
        return [(start, self._size, holder) for start, holder in self._slots() if is_user(holder)]

    def first_broken(self):
        """The lowest red or unused place with a wrong word, as a tuple (place, found, due), or None."""
        image = self._ground.image()
        for page in self._pages(image):
            found = broken_in_slab(image, page, self._order, self._align, self._ender)
            if found is not None:
                return found
        return None


def is_no_slot(image, paper, size, *, align=1, order=0, zone=1, urgent=False):
    """True if the paper shows that a cache has no free slot and the buddies have no block for it."""
    need(has_map(image), "image")
    need_whole(size, 1, MOST_SLOT, "size")
    need_align(align, image[0], "align")
    need_whole(order, 0, MOST_ORDER, "order")
    need_whole(zone, 1, image[2][1], "zone")
    need(is_flag(urgent), "urgent")
    if slab_shape(image[0], order, size, align) is None or not is_paper(paper, "slots", 4):
        return False
    _, label, pages, inner = paper
    if not is_whole(label) or not 1 <= label <= MOST_LABEL:
        return False
    blocks = given_in(image, label)
    if not is_exactly(pages, tuple([page for page, _ in blocks])) or any([each != order for _, each in blocks]):
        return False
    if any([holder == SLAB for _, holder in slots_in(image, label, order, size, align)]):
        return False
    return is_no_block(image, order, inner, zone=zone, urgent=urgent)
