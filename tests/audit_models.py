"""A slow plain audit, written from the points 70 to 72: all checks in their order, each as (place, is right, due)."""

from tests.bed_models import plain_broken
from tests.models import class_shape
from tests.test_slots import SIZES, plain_starts


class PlainAudit:
    """The checks of one image; the image has a map."""

    def __init__(self, image, arena=3, heap=2, pages=8):
        self.width, self.fill, self.words, self.holders = self.image = image
        self.arena, self.heap, self.virtual = arena, heap, pages
        count = self.words[1]
        self.zones = [self.words[2 + 4 * n:6 + 4 * n] for n in range(count)]
        self.base = 2 + 4 * count
        self.pages = len(self.words) // self.width
        self.front = self.zones[0][0]
        self.zone_of = {page: row for row in self.zones for page in range(row[0], row[0] + row[1])}
        self.classes = sum(size <= self.width // 2 for size in SIZES)

    def row(self, page):
        return self.base + 4 * page

    def same(self, place, due):
        """The check that a word is the one that is due."""
        return place, self.words[place] == due, due

    def map_checks(self):
        page, before = 0, None
        while page < self.pages:
            at = self.row(page)
            if page not in self.zone_of:
                yield from (self.same(at + k, 0) for k in range(4))
                page, before = page + 1, None
                continue
            first, count = self.zone_of[page][:2]
            before = None if page == first else before
            code = self.words[at]
            free, given = code in range(1, 10), code in range(21, 30)
            order = code - 1 if free else code - 21
            right = (free or given) and page % 2 ** order == 0 and page + 2 ** order <= first + count
            if right and free and order < 8 and before == (page - 2 ** order, order) and page // 2 ** order % 2 == 1:
                right = False
            yield at, right, 0
            label = self.words[at + 1]
            yield at + 1, label == 0 if free else label in range(1, 1000), 0
            for each in range(page, page + 2 ** order):
                places = ([0, 1] if each != page else []) + ([2, 3] if free else [])
                yield from (self.same(self.row(each) + k, 0) for k in places)
            before = (page, order) if free else None
            page += 2 ** order
        yield from (self.same(place, self.fill) for place in range(self.row(self.pages), self.front * self.width))

    def blocks(self):
        """All blocks (page, order, label) behind the map pages; 0 is the label of free ones and of pages in no zone."""
        page, out = self.front, []
        while page < self.pages:
            code, label = self.words[self.row(page):self.row(page) + 2]
            order = 0 if page not in self.zone_of else code - 21 if label else code - 1
            out.append((page, order, label))
            page += 2 ** order
        return out

    def block_checks(self):
        edge = 0
        arena_pages = {page + k for page, order, label in self.blocks() if label == 200 for k in range(2 ** order)}
        used = {page for page in arena_pages if self.holders[page * self.width] != 23}
        self.extents = []
        for page, order, label in self.blocks():
            places = range(page * self.width, (page + 2 ** order) * self.width)
            if label == 0:
                yield from (
                    (place, self.holders[place] == 0 and self.words[place] == self.fill, self.fill) for place in places)
            elif 100 <= label < 100 + self.classes:
                yield from self.slab_checks(page, order, label - 100, places)
            elif label == 200:
                yield self.row(page), order == self.arena, 21 + self.arena
                for each in range(page, page + 2 ** order):
                    if each not in used:
                        start = each * self.width
                        yield from (self.same(place, self.fill) for place in range(start, start + self.width))
                    elif each >= edge:
                        n = self.words[self.row(each) + 2]
                        yield self.row(each) + 2, n >= 1 and all(k in used for k in range(each, each + n)), 0
                        self.extents.append((each, n))
                        edge = each + n
            elif label == 300:
                yield self.row(page), order == self.heap, 21 + self.heap
                broken = plain_broken(self.image, places[0], len(places))
                if broken:
                    yield broken[0], False, broken[2]

    def slab_checks(self, page, order, number, places):
        size, align, due = class_shape(self.width, number)
        yield self.row(page), order == due, 21 + due
        slots = {start + k: start for start in plain_starts(self.width, order, size, align, page) for k in range(size)}
        for place in places:
            if place not in slots:
                yield self.same(place, 60001)
            elif self.holders[slots[place]] in (22, *range(11, 19)):
                yield self.same(place, 60002)

    def given(self, label):
        return [page for page, _, each in self.blocks() if each == label]

    def table_checks(self):
        due = 0
        while self.width * 2 ** due < 2 * self.virtual:
            due += 1
        orders = {page: order for page, order, _ in self.blocks()}
        named = set()
        for label in range(402, 410):
            for page in self.given(label):
                yield self.row(page), orders[page] == due, 21 + due
                start = page * self.width
                for place in range(start, start + 2 * self.virtual, 2):
                    first, second = self.words[place:place + 2]
                    yield place, first in (0, 4, 8, 9, 10, 12, 13, 14, 16, 17, 18), 0
                    real = {3: self.given(401), 4: self.given(410)}.get(first // 4)
                    right = second == 0 if real is None else second in real and orders[second] == 0
                    yield place + 1, right, 0
                    if real is not None:
                        named.add(second)
                end = start + self.width * 2 ** orders[page]
                yield from (self.same(place, self.fill) for place in range(start + 2 * self.virtual, end))
        for page in sorted(self.given(401) + self.given(410)):
            yield self.row(page) + 1, page in named, 0

    def first(self, *parts):
        """The first broken word of some parts."""
        for part in parts:
            for place, right, due in part():
                if not right:
                    return (place, self.words[place], due)
        return None

    def first_broken_map(self):
        return self.first(self.map_checks)

    def first_broken_word(self):
        return self.first(self.map_checks, self.block_checks, self.table_checks)

    def asked(self):
        """False if the audit is not asked of the image."""
        rows = [self.words[self.row(page):self.row(page) + 2] for page in range(self.pages)]
        return not any(code >= 21 and 100 + self.classes <= label <= 109 for code, label in rows)

    def listed(self):
        """What the audit lists, if no word is broken."""
        rows, width, holders = [], self.width, self.holders
        assert self.first_broken_word() is None
        for page, order, label in self.blocks():
            if 100 <= label < 100 + self.classes:
                size, align, _ = class_shape(width, label - 100)
                for start in plain_starts(width, order, size, align, page):
                    if 1 <= holders[start] <= 8:
                        rows.append((start, size, holders[start], "slot"))
            elif label == 300:
                p, end = page * width + 2, (page + 2 ** order) * width
                while p < end:
                    n, used = divmod(self.words[p], 2)
                    if used:
                        rows.append((p + 1, n - 2, holders[p + 1], "piece"))
                    p += n
        return sorted(rows + [(page * width, n * width, holders[page * width], "extent") for page, n in self.extents])
