"""Extents: runs of whole pages, given out from arenas."""

from allgivenback.basics import EXTENT, NoRoom, Unknown, is_user, is_whole
from allgivenback.buddies import MOST_LABEL, Buddies, is_no_block
from allgivenback.checks import is_exactly, is_flag, is_paper, need, need_whole
from allgivenback.covers import is_cover, least_cover
from allgivenback.deeds import as_deed, need_held, need_words
from allgivenback.images import MOST_PAGES
from allgivenback.layout import given_in, has_map, notes_in
from allgivenback.places import Places
from allgivenback.spans import MOST_ORDER, need_align

MOST_AGE = 1000


def pages_in(blocks):
    """A list of all pages of blocks (page, order), in their order."""
    return [page for first, order in blocks for page in range(first, first + (1 << order))]


def set_of(pages):
    """The set of these pages."""
    return Places([(page, 1) for page in pages])


def is_free_page(image, page):
    """True if the page of an arena is free."""
    return image[3][page * image[0]] == EXTENT


def held_pages(image, pages):
    """The set of those pages of arenas that are not free."""
    return set_of([page for page in pages if not is_free_page(image, page)])


def is_run_row(row, run, count, held, align):
    """True if the row shows that a maximal run of pages has no so many free ones, aligned."""
    if not isinstance(row, tuple) or len(row) != 3:
        return False
    low = run[0]
    high = low + run[1]
    return is_exactly(row[:2], (low, high)) and is_cover(low, high, count, held, row[2], align=align)


class Extents:
    """The arenas with one label and the extents that are handed out from them."""

    def __init__(self, buddies, label, *, order=3, limit=4, zone=1):
        need(isinstance(buddies, Buddies), "buddies")
        need_whole(label, 1, MOST_LABEL, "label")
        need_whole(order, 0, MOST_ORDER, "order")
        need_whole(limit, 0, MOST_AGE, "limit")
        need_whole(zone, 1, len(buddies.zone_rows()), "zone")
        self._buddies = buddies
        self._ground = buddies.ground
        self._label = label
        self._order = order
        self._limit = limit
        self._zone = zone

    def take(self, pages, holder, *, align=1, fit="best", urgent=False):
        """Gives so many free pages side by side to the holder and returns their span in places."""
        need_whole(pages, 1, 1 << self._order, "pages")
        need(is_user(holder), "holder")
        need_align(align, 1 << self._order, "align")
        need(fit == "best" or fit == "first", "fit")
        need(is_flag(urgent), "urgent")
        return as_deed(self._ground, lambda: self._take(pages, holder, align, fit, urgent))

    def _take(self, count, holder, align, fit, urgent):
        """Does what take tells, once the arguments are looked at."""
        page = self._find(count, align, fit)
        if page is None:
            self._new_arena(count, align, urgent)
            page = self._find(count, align, fit)
        start = page * self._ground.width
        size = count * self._ground.width
        need_words(self._ground, start, (self._ground.fill,) * size, EXTENT)
        self._ground.pass_on(start, size, EXTENT, holder)
        self._note(page, count)
        return (start, size)

    def _find(self, count, align, fit):
        """The first page of the free pages that serve, or None."""
        if fit == "first":
            return self.runs().first_start(count, align=align)
        return self.runs().best_start(count, align=align)

    def _new_arena(self, count, align, urgent):
        """Takes a new arena from the buddies."""
        try:
            self._buddies.take(self._order, self._label, EXTENT, zone=self._zone, urgent=urgent)
        except NoRoom as refusal:
            rows = self._run_rows(count, align)
            raise NoRoom(("extents", self._label, rows, refusal.paper)) from None

    def _run_rows(self, count, align):
        """A tuple (low, high, cover) for each maximal run of pages of arenas, ascending."""
        image = self._ground.image()
        pages = self._pages(image)
        held = held_pages(image, pages)
        return tuple([
            (low, low + many, least_cover(low, low + many, count, held, align=align))
            for low, many in set_of(pages).spans])

    def _note(self, page, count):
        """Writes the notes of the pages of a handed-out extent."""
        self._buddies.set_note(page, count, 0)
        for each in range(page + 1, page + count):
            self._buddies.set_note(each, 0, 0)

    def give_back(self, start, holder):
        """Makes the pages of an extent free and returns its span."""
        need_whole(start, 0, self._ground.top - 1, "start")
        need(is_user(holder), "holder")
        return as_deed(self._ground, lambda: self._give_back(start, holder))

    def _give_back(self, start, holder):
        """Does what give_back tells, once the arguments are looked at."""
        count = self._need_extent(start)
        size = count * self._ground.width
        self._ground.pass_on(start, size, holder, EXTENT)
        self._ground.write_row(start, (self._ground.fill,) * size, EXTENT)
        # A free page has the notes (0, age), and the age is 0 now.
        self._buddies.set_note(start // self._ground.width, 0, 0)
        return (start, size)

    def split_at(self, start, holder, count):
        """Parts an extent in one of so many pages and the rest, and returns both spans."""
        need_whole(start, 0, self._ground.top - 1, "start")
        need(is_user(holder), "holder")
        need_whole(count, 1, MOST_PAGES, "count")
        whole = self._need_extent(start)
        if count >= whole:
            raise Unknown("count")
        width = self._ground.width
        need_held(self._ground, start, whole * width, holder)
        as_deed(self._ground, lambda: self._note_two(start // width, count, whole - count))
        return ((start, count * width), (start + count * width, (whole - count) * width))

    def _note_two(self, page, first, second):
        """Writes the notes of two extents side by side, which have so many pages."""
        self._note(page, first)
        self._note(page + first, second)

    def join_next(self, start, holder):
        """Joins an extent with the one that begins at its end, and returns the span of both."""
        need_whole(start, 0, self._ground.top - 1, "start")
        need(is_user(holder), "holder")
        width = self._ground.width
        first = self._need_extent(start)
        count = first + self._need_extent(start + first * width)
        need_held(self._ground, start, count * width, holder)
        as_deed(self._ground, lambda: self._note(start // width, count))
        return (start, count * width)

    def pass_to(self, start, holder, taker):
        """Passes an extent on to a user with its words and returns its span."""
        size = self._need_extent(start) * self._ground.width
        self._ground.pass_on(start, size, holder, taker)
        return (start, size)

    def _need_extent(self, start):
        """The number of pages of the extent that begins at the place; Unknown if none does."""
        for first, size, _ in self.handed():
            if first == start:
                return size // self._ground.width
        raise Unknown("start")

    def tick(self):
        """Lets the free pages grow older, gives back old arenas and returns their first pages."""
        return as_deed(self._ground, lambda: self._tick())

    def _tick(self):
        """Does what tick tells."""
        for page, age in self.ages():
            self._buddies.set_note(page, 0, min(age + 1, MOST_AGE))
        return self._drop(self._limit)

    def shrink(self):
        """Gives back the arenas whose pages are all free and returns their first pages."""
        return as_deed(self._ground, lambda: self._drop(0))

    def _drop(self, least):
        """Gives back the arenas whose pages are all free with at least that age."""
        ages = {page: age for page, age in self.ages()}
        dropped = []
        for first in self.arenas():
            if all([ages.get(page, -1) >= least for page in pages_in([(first, self._order)])]):
                self._buddies.give_back(first * self._ground.width, EXTENT)
                dropped.append(first)
        return dropped

    def _blocks(self, image):
        """The blocks (page, order) of the arenas, ascending."""
        return [block for block in given_in(image, self._label) if block[1] == self._order]

    def _pages(self, image):
        """All pages of the arenas, ascending."""
        return pages_in(self._blocks(image))

    def arenas(self):
        """The first pages of all arenas, ascending."""
        return [page for page, _ in self._blocks(self._ground.image())]

    def runs(self):
        """The set of the free pages."""
        return set_of([page for page, _ in self.ages()])

    def ages(self):
        """A list of tuples (page, age) for all free pages, ascending."""
        image = self._ground.image()
        return [(page, notes_in(image, page)[1]) for page in self._pages(image) if is_free_page(image, page)]

    def handed(self):
        """A list of tuples (start, size, holder) of the handed-out extents, ascending."""
        image = self._ground.image()
        width = self._ground.width
        rows = []
        for page in self._pages(image):
            count = notes_in(image, page)[0]
            if count > 0 and not is_free_page(image, page):
                rows.append((page * width, count * width, image[3][page * width]))
        return rows

    def first_broken(self):
        """The lowest place of a free page with a wrong word, as a tuple (place, found, fill), or None."""
        words = self._ground.image()[2]
        width = self._ground.width
        fill = self._ground.fill
        for page, _ in self.ages():
            for place in range(page * width, (page + 1) * width):
                if words[place] != fill:
                    return (place, words[place], fill)
        return None


def is_no_extent(image, paper, pages, *, align=1, order=3, zone=1, urgent=False):
    """True if the paper shows that no run of the arenas serves and the buddies have no block for a new one."""
    need(has_map(image), "image")
    need_whole(pages, 1, MOST_PAGES, "pages")
    need_align(align, MOST_PAGES, "align")
    need_whole(order, 0, MOST_ORDER, "order")
    need_whole(zone, 1, image[2][1], "zone")
    need(is_flag(urgent), "urgent")
    if not is_paper(paper, "extents", 4):
        return False
    _, label, rows, inner = paper
    if not is_whole(label) or not 1 <= label <= MOST_LABEL:
        return False
    blocks = given_in(image, label)
    runs = set_of(pages_in(blocks)).spans
    if any([each != order for _, each in blocks]) or not isinstance(rows, tuple) or len(rows) != len(runs):
        return False
    held = held_pages(image, pages_in(blocks))
    if not all([is_run_row(row, run, pages, held, align) for row, run in zip(rows, runs)]):
        return False
    return is_no_block(image, order, inner, zone=zone, urgent=urgent)
