"""Slow plain models of the keepers over the buddies, written from the points alone."""

from tests.helpers import Refused
from tests.test_buddies import PlainBuddies
from tests.test_covers import plain_cover, plain_windows
from tests.test_slots import SIZES, plain_shape, plain_starts


class PlainMap(PlainBuddies):
    """The plain buddies, in which keepers write words and holders into given blocks."""

    def __init__(self, pages, width, fill, zones):
        super().__init__(pages, width, fill, zones)
        self.start = super().image()
        self.cells = {}

    def take_block(self, order, label, keeper, zone, urgent):
        """The first page of a new block."""
        told = self.take(order, label, keeper, zone, urgent)
        if isinstance(told[0], str):
            raise Refused(told[0], *told[1])
        for place in range(told[0], told[0] + told[1]):
            self.cells[place] = [self.fill, keeper]
        return told[0] // self.width

    def drop_block(self, page):
        """Gives a block back."""
        order, _, keeper = self.blocks[page]
        for place in range(page * self.width, (page + 2 ** order) * self.width):
            del self.cells[place]
        self.give_back(page * self.width, keeper)

    def pages_of(self, label):
        """The first pages of the blocks with a label."""
        return sorted(page for page, block in self.blocks.items() if block[1] == label)

    def image(self):
        width, fill, words, holders = super().image()
        words, holders = list(words), list(holders)
        for place, (word, holder) in self.cells.items():
            words[place], holders[place] = word, holder
        return (width, fill, tuple(words), tuple(holders))

    def poke(self, place, word):
        """Changes a word behind the map."""
        if place in self.cells:
            self.cells[place][0] = word
        elif word == self.fill:
            self.words.pop(place, None)
        else:
            self.words[place] = word

    def pass_on(self, start, size, taker):
        """Passes places of users on."""
        for place in range(start, start + size):
            self.cells[place][1] = taker

    def need_held(self, start, size, holder):
        for place in range(start, start + size):
            if self.cells[place][1] != holder:
                raise Refused("NotHeld", place, self.cells[place][1])


class PlainCache:
    """A slow cache."""

    def __init__(self, buddies, label, size, *, align=1, order=0, spare=1, zone=1, maker=None, ender=None):
        self.buddies, self.label, self.size, self.align, self.order = buddies, label, size, align, order
        self.spare, self.zone = spare, zone
        self.maker = [buddies.fill] * size if maker is None else list(maker)
        self.ender = [60002] * size if ender is None else list(ender)
        self.many = plain_shape(buddies.width, order, size, align)[1]

    def image(self):
        return self.buddies.image()

    def pages(self):
        return self.buddies.pages_of(self.label)

    def starts(self, page):
        return plain_starts(self.buddies.width, self.order, self.size, self.align, page)

    def slots(self):
        """All slots with the holder of the first place."""
        return [(start, self.buddies.cells[start][1]) for page in self.pages() for start in self.starts(page)]

    def slabs(self):
        holders = dict(self.slots())
        return [(page, sum(holders[start] != 22 for start in self.starts(page))) for page in self.pages()]

    def starts_of(self, holder):
        return [start for start, found in self.slots() if found == holder]

    def slot_at(self, place):
        for start, _ in self.slots():
            if place in range(start, start + self.size):
                return (start, self.size)
        return None

    def handed(self):
        return [(start, self.size, holder) for start, holder in self.slots() if holder <= 8]

    def red(self, page):
        """The red places of a slab."""
        first = page * self.buddies.width
        slots = {start + k for start in self.starts(page) for k in range(self.size)}
        return [place for place in range(first, first + self.buddies.width * 2 ** self.order) if place not in slots]

    def first_broken(self):
        cells, wrong = self.buddies.cells, []
        for page in self.pages():
            wrong += [(place, cells[place][0], 60001) for place in self.red(page) if cells[place][0] != 60001]
            for start in self.starts(page):
                for k in range(self.size):
                    if cells[start][1] > 8 and cells[start + k][0] != self.ender[k]:
                        wrong.append((start + k, cells[start + k][0], self.ender[k]))
        return min(wrong) if wrong else None

    def take(self, taker, *, urgent=False):
        rows = self.slabs()
        partial = [page for page, taken in rows if 0 < taken < self.many]
        empty = [page for page, taken in rows if taken == 0]
        if partial or empty:
            page = (partial or empty)[0]
        else:
            page = self.new_slab(urgent)
        start = [each for each in self.starts(page) if self.buddies.cells[each][1] == 22][0]
        if taker <= 8:
            self.need_ender(start, 22)
            self.write(start, self.maker)
        self.buddies.pass_on(start, self.size, taker)
        return (start, self.size)

    def new_slab(self, urgent):
        pages = tuple(self.pages())
        try:
            page = self.buddies.take_block(self.order, self.label, 22, self.zone, urgent)
        except Refused as refusal:
            if refusal.told[0] != "NoRoom":
                raise
            raise Refused("NoRoom", ("slots", self.label, pages, refusal.told[1][0]))
        for place in self.red(page):
            self.buddies.cells[place][0] = 60001
        for start in self.starts(page):
            self.write(start, self.ender)
        return page

    def write(self, start, words):
        for k, word in enumerate(words):
            self.buddies.cells[start + k][0] = word

    def need_ender(self, start, giver):
        for k, word in enumerate(self.ender):
            found, holder = self.buddies.cells[start + k]
            if holder == giver and found != word:
                raise Refused("Broken", start + k, found, word)

    def page_of(self, start):
        for page in self.pages():
            if start in self.starts(page):
                return page
        raise Refused("Unknown", "start")

    def need_red(self, page, start):
        red = self.red(page)
        for step in (-1, 1):
            place = start - 1 if step < 0 else start + self.size
            found = []
            while place in red:
                if self.buddies.cells[place][0] != 60001:
                    found.append(place)
                place += step
            if found:
                raise Refused("Broken", min(found), self.buddies.cells[min(found)][0], 60001)

    def give_back(self, start, giver):
        page = self.page_of(start)
        if giver <= 8:
            self.need_red(page, start)
        self.buddies.need_held(start, self.size, giver)
        self.write(start, self.ender)
        self.buddies.pass_on(start, self.size, 22)
        empty = [each for each, taken in self.slabs() if taken == 0]
        if page in empty and len(empty) > self.spare:
            self.buddies.drop_block(max(empty))
        return (start, self.size)

    def hand_over(self, start, giver, taker):
        page = self.page_of(start)
        if giver <= 8 < taker:
            self.need_red(page, start)
        if taker <= 8 < giver:
            self.need_ender(start, giver)
        self.buddies.need_held(start, self.size, giver)
        if giver <= 8 < taker:
            self.write(start, self.ender)
        if taker <= 8 < giver:
            self.write(start, self.maker)
        self.buddies.pass_on(start, self.size, taker)
        return (start, self.size)

    def shrink(self):
        empty = [page for page, taken in self.slabs() if taken == 0]
        for page in empty:
            self.buddies.drop_block(page)
        return len(empty)

    def is_paper(self, paper, zone, urgent):
        """The judgement of point 31, for any value and any label."""
        if type(paper) is not tuple or len(paper) != 4 or type(paper[0]) is not str or paper[0] != "slots":
            return False
        _, label, pages, inner = paper
        if type(label) is not int or not 1 <= label <= 999:
            return False
        if type(pages) is not tuple or not all(type(page) is int for page in pages):
            return False
        if list(pages) != self.buddies.pages_of(label):
            return False
        if any(self.buddies.blocks[page][0] != self.order for page in pages):
            return False
        if any(self.buddies.cells[start][1] == 22 for page in pages for start in self.starts(page)):
            return False
        return self.buddies.is_paper(self.order, inner, zone, urgent)


def class_shape(width, number):
    """The size, the alignment and the order of a size class by point 32."""
    size = [each for each in SIZES if each <= width // 2][number]
    align = max(each for each in (1, 2, 4) if size % each == 0)
    order = 0
    while (plain_shape(width, order, size, align) or (0, 0))[1] < 2:
        order += 1
    return size, align, order


class PlainDrawers:
    """Slow drawers."""

    def __init__(self, buddies, *, lot=2, spare=1, zone=1):
        self.buddies, self.lot = buddies, lot
        self.caches = []
        for number in range(sum(size <= buddies.width // 2 for size in SIZES)):
            size, align, order = class_shape(buddies.width, number)
            self.caches.append(PlainCache(
                buddies, 100 + number, size, align=align, order=order, spare=spare, zone=zone))

    def image(self):
        return self.buddies.image()

    def class_of(self, size, align):
        for number, cache in enumerate(self.caches):
            if cache.size >= size and cache.align >= align:
                return number
        raise Refused("Unknown", "size")

    def take(self, size, holder, *, align=1, urgent=False):
        number = self.class_of(size, align)
        cache = self.caches[number]
        paper = None
        if not cache.starts_of(10 + holder):
            for _ in range(self.lot):
                try:
                    cache.take(10 + holder, urgent=urgent)
                except Refused as refusal:
                    if refusal.told[0] != "NoRoom":
                        raise
                    paper = refusal.told[1][0]
                    break
        if not cache.starts_of(10 + holder):
            drawers = {user: cache.starts_of(10 + user) for user in range(1, 9)}
            giver = max(drawers, key=lambda user: (len(drawers[user]), -user))
            if not drawers[giver]:
                raise Refused("NoRoom", ("drawers", number, paper))
            cache.hand_over(drawers[giver][0], 10 + giver, 10 + holder)
        return cache.hand_over(cache.starts_of(10 + holder)[0], 10 + holder, holder)

    def cache_at(self, start):
        for cache in self.caches:
            if start in [each for each, _ in cache.slots()]:
                return cache
        raise Refused("Unknown", "start")

    def give_back(self, start, holder):
        cache = self.cache_at(start)
        span = cache.hand_over(start, holder, 10 + holder)
        starts = cache.starts_of(10 + holder)
        if len(starts) > 2 * self.lot:
            for each in sorted(starts, reverse=True)[:self.lot]:
                cache.give_back(each, 10 + holder)
        return span

    def flush(self, holder):
        count = 0
        for cache in self.caches:
            for start in cache.starts_of(10 + holder):
                cache.give_back(start, 10 + holder)
                count += 1
        return count

    def settle(self):
        count = sum(self.flush(user) for user in range(1, 9))
        for cache in self.caches:
            cache.shrink()
        return count

    def starts_in(self, holder, index):
        return self.caches[index].starts_of(10 + holder)

    def handed(self):
        return sorted(row for cache in self.caches for row in cache.handed())

    def first_broken(self):
        found = [cache.first_broken() for cache in self.caches]
        return ([row for row in found if row is not None] + [None])[0]

    def is_paper(self, paper, zone, urgent):
        """The judgement of point 34, for any value."""
        if type(paper) is not tuple or len(paper) != 3 or type(paper[0]) is not str or paper[0] != "drawers":
            return False
        number, inner = paper[1:]
        if type(number) is not int or not 0 <= number < len(self.caches):
            return False
        cache = self.caches[number]
        if any(cache.starts_of(10 + user) for user in range(1, 9)):
            return False
        return cache.is_paper(inner, zone, urgent) and inner[1] == 100 + number


class PlainExtents:
    """Slow extents: the handed-out extents and the ages of the free pages are kept beside the plain buddies."""

    def __init__(self, buddies, label, *, order=3, limit=4, zone=1):
        self.buddies, self.label, self.order, self.limit, self.zone = buddies, label, order, limit, zone
        self.extents = {}
        self.free = {}

    def image(self):
        """The image, with the notes of the pages of arenas."""
        for page in self.pages():
            self.buddies.notes[page] = (self.extents.get(page, 0), self.free.get(page, 0))
        return self.buddies.image()

    def arenas(self):
        return self.buddies.pages_of(self.label)

    def pages(self):
        return [page for first in self.arenas() for page in range(first, first + 2 ** self.order)]

    def places(self, page, count=1):
        width = self.buddies.width
        return range(page * width, (page + count) * width)

    def ages(self):
        return sorted(self.free.items())

    def handed(self):
        width, cells = self.buddies.width, self.buddies.cells
        return [(page * width, n * width, cells[page * width][1]) for page, n in sorted(self.extents.items())]

    def first_broken(self):
        for page in sorted(self.free):
            for place in self.places(page):
                if self.buddies.cells[place][0] != self.buddies.fill:
                    return (place, self.buddies.cells[place][0], self.buddies.fill)
        return None

    def free_runs(self):
        """The maximal runs of free pages as tuples (low, high)."""
        return maximal_runs(sorted(self.free))

    def find(self, count, align, fit):
        fitting = []
        for low, high in self.free_runs():
            starts = [page for page in range(low, high - count + 1) if page % align == 0]
            if starts:
                fitting.append((high - low if fit == "best" else 0, starts[0]))
        return min(fitting)[1] if fitting else None

    def take(self, pages, holder, *, align=1, fit="best", urgent=False):
        page = self.find(pages, align, fit)
        if page is None:
            self.new_arena(pages, align, urgent)
            page = self.find(pages, align, fit)
        for place in self.places(page, pages):
            if self.buddies.cells[place][0] != self.buddies.fill:
                raise Refused("Broken", place, self.buddies.cells[place][0], self.buddies.fill)
        self.buddies.pass_on(page * self.buddies.width, pages * self.buddies.width, holder)
        for each in range(page, page + pages):
            del self.free[each]
        self.extents[page] = pages
        return (page * self.buddies.width, pages * self.buddies.width)

    def new_arena(self, pages, align, urgent):
        try:
            first = self.buddies.take_block(self.order, self.label, 23, self.zone, urgent)
        except Refused as refusal:
            if refusal.told[0] != "NoRoom":
                raise
            rows = []
            for low, high in maximal_runs(self.pages()):
                cover = self.buddies_cover(low, high, pages, align)
                rows.append((low, high, cover))
            raise Refused("NoRoom", ("extents", self.label, tuple(rows), refusal.told[1][0]))
        for page in range(first, first + 2 ** self.order):
            self.free[page] = 0

    def buddies_cover(self, low, high, count, align):
        """The least cover of point 11 by its own words."""
        taken = []
        for start in plain_windows(low, high, count, align):
            if not any(start <= page < start + count for page in taken):
                taken.append(max(page for page in range(start, start + count) if page not in self.free))
        return tuple(taken)

    def extent_at(self, start):
        if start % self.buddies.width or start // self.buddies.width not in self.extents:
            raise Refused("Unknown", "start")
        page = start // self.buddies.width
        return page, self.extents[page]

    def give_back(self, start, holder):
        page, count = self.extent_at(start)
        self.buddies.need_held(start, count * self.buddies.width, holder)
        for place in self.places(page, count):
            self.buddies.cells[place] = [self.buddies.fill, 23]
        for each in range(page, page + count):
            self.free[each] = 0
        del self.extents[page]
        return (start, count * self.buddies.width)

    def split_at(self, start, holder, count):
        page, whole = self.extent_at(start)
        if count >= whole:
            raise Refused("Unknown", "count")
        width = self.buddies.width
        self.buddies.need_held(start, whole * width, holder)
        self.extents[page], self.extents[page + count] = count, whole - count
        return ((start, count * width), (start + count * width, (whole - count) * width))

    def join_next(self, start, holder):
        page, first = self.extent_at(start)
        width = self.buddies.width
        after, second = self.extent_at(start + first * width)
        self.buddies.need_held(start, (first + second) * width, holder)
        self.extents[page] = first + second
        del self.extents[after]
        return (start, (first + second) * width)

    def tick(self):
        self.free = {page: min(1000, age + 1) for page, age in self.free.items()}
        return self.drop(self.limit)

    def shrink(self):
        return self.drop(0)

    def drop(self, least):
        dropped = []
        for first in self.arenas():
            pages = range(first, first + 2 ** self.order)
            if all(page in self.free and self.free[page] >= least for page in pages):
                for page in pages:
                    del self.free[page]
                self.buddies.drop_block(first)
                dropped.append(first)
        return dropped

    def is_paper(self, paper, count, align, zone, urgent):
        """The judgement of point 39, for any value."""
        if type(paper) is not tuple or len(paper) != 4 or type(paper[0]) is not str or paper[0] != "extents":
            return False
        _, label, rows, inner = paper
        if type(label) is not int or not 1 <= label <= 999 or type(rows) is not tuple:
            return False
        firsts = self.buddies.pages_of(label)
        if any(self.buddies.blocks[page][0] != self.order for page in firsts):
            return False
        pages = [page for first in firsts for page in range(first, first + 2 ** self.order)]
        runs = maximal_runs(pages)
        held = {page for page in pages if self.buddies.cells[page * self.buddies.width][1] != 23}
        if len(rows) != len(runs):
            return False
        for row, (low, high) in zip(rows, runs):
            if type(row) is not tuple or len(row) != 3 or [type(value) for value in row] != [int, int, tuple]:
                return False
            if row[:2] != (low, high) or not all(type(page) is int for page in row[2]):
                return False
            if not plain_cover(low, high, count, held, align, row[2]):
                return False
        return self.buddies.is_paper(self.order, inner, zone, urgent)


def maximal_runs(pages):
    """The maximal runs of an ascending list of pages, as tuples (low, high)."""
    return [(page, next(end for end in range(page, page + 999) if end not in pages))
            for page in pages if page - 1 not in pages]
