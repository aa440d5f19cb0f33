"""Slow plain models of a store and of a session over it."""

import copy

from tests.bed_models import PlainHeap, plain_serves
from tests.helpers import Refused, cost_of
from tests.models import PlainDrawers, PlainExtents, PlainMap
from tests.space_models import PlainMapped


class PlainStore:
    """A slow store: the plain keepers side by side, and a plain heap for each block with the label 300."""

    def __init__(self, count, width, fill, zones, *, lot=2, spare=1, arena=3, limit=4, heap=2, pages=8, slow=0, zone=1):
        self.buddies = PlainMap(count, width, fill, zones)
        self.drawers = PlainDrawers(self.buddies, lot=lot, spare=spare, zone=zone)
        self.extents = PlainExtents(self.buddies, 200, order=arena, limit=limit, zone=zone)
        self.spaces = PlainMapped(self.buddies, 401, pages=pages, slow=slow, zone=zone)
        self.heaps = {}
        self.width, self.arena, self.heap, self.zone = width, arena, heap, zone

    def image(self):
        self.extents.image()
        image = self.spaces.image()
        for heap in self.heaps.values():
            heap.base = image
            image = heap.image()
        return image

    def route(self, size, align):
        """The part, and what it is asked for."""
        try:
            return ("slot", self.drawers.class_of(size, align), 0)
        except Refused:
            pass
        if 4 * size <= self.width * 2 ** self.heap and align <= self.width:
            return ("piece", size, align)
        pages, step = -(-size // self.width), max(1, align // self.width)
        if max(pages, step) > 2 ** self.arena:
            raise Refused("Unknown", "size")
        return ("extent", pages, step)

    def take(self, size, holder, *, align=1, urgent=False):
        route = self.route(size, align)
        try:
            return self.take_on(route, size, holder, align, urgent)
        except Refused as refusal:
            if refusal.told[0] != "NoRoom":
                raise
        self.settle()
        return self.take_on(route, size, holder, align, urgent)

    def take_on(self, route, size, holder, align, urgent):
        if route[0] == "slot":
            return self.drawers.take(size, holder, align=align, urgent=urgent)
        if route[0] == "extent":
            return self.extents.take(route[1], holder, align=route[2], urgent=urgent)
        papers = []
        for page, heap in sorted(self.heaps.items()):
            try:
                return heap.take(size, holder, align=align)
            except Refused as refusal:
                papers.append((page * self.width, refusal.told[1][0]))
        try:
            page = self.buddies.take_block(self.heap, 300, 24, self.zone, urgent)
        except Refused as refusal:
            if refusal.told[0] != "NoRoom":
                raise
            raise Refused("NoRoom", ("heaps", tuple(papers), refusal.told[1][0]))
        self.heaps[page] = PlainHeap(self.buddies.image(), page * self.width, self.width * 2 ** self.heap)
        return self.heaps[page].take(size, holder, align=align)

    def part_at(self, start):
        """The part and the first page of the block around a place."""
        block = self.buddies.block_at(start)
        if block:
            part = {200: "extent", 300: "piece"}.get(block[2])
            if part or 100 <= block[2] < 100 + len(self.drawers.caches):
                return part or "slot", block[0]
        raise Refused("Unknown", "start")

    def give_back(self, start, holder):
        part, page = self.part_at(start)
        if part == "slot":
            return self.drawers.give_back(start, holder)
        if part == "extent":
            return self.extents.give_back(start, holder)
        span = self.heaps[page].give_back(start, holder)
        if self.heaps[page].is_empty():
            del self.heaps[page]
            self.buddies.drop_block(page)
        return span

    def resize(self, start, holder, size):
        old = copy.deepcopy(self).give_back(start, holder)
        part, page = self.part_at(start)
        route = self.route(size, 1)
        if part == route[0] == "slot" and self.drawers.caches[route[1]].size == old[1]:
            return old
        if part == route[0] == "extent" and route[1] * self.width == old[1]:
            return old
        if part == route[0] == "piece":
            try:
                return self.heaps[page].resize(start, holder, size)
            except Refused:
                pass
        new = self.take(size, holder)
        for k in range(min(old[1], new[1])):
            self.put(new[0] + k, self.cell(start + k)[0])
        self.give_back(start, holder)
        return new

    def cell(self, place):
        """The word and the holder of a place that was handed out."""
        for heap in self.heaps.values():
            if place in heap.payload:
                return heap.payload[place]
        return tuple(self.buddies.cells[place])

    def put(self, place, word):
        self.change(place, word, self.cell(place)[1])

    def change(self, place, word, holder):
        """Changes a place that was handed out."""
        for heap in self.heaps.values():
            if place in heap.payload:
                heap.payload[place] = (word, holder)
                return
        self.buddies.cells[place] = [word, holder]

    def pass_to(self, start, holder, taker):
        part, page = self.part_at(start)
        if part == "slot":
            cache = self.drawers.cache_at(start)
            span = (start, cache.size)
            self.buddies.need_held(*span, holder)
        elif part == "extent":
            page, count = self.extents.extent_at(start)
            span = (start, count * self.width)
            self.buddies.need_held(*span, holder)
        else:
            p, n = self.heaps[page].piece_at(start, holder)
            span = (p + 1, n - 2)
        for place in range(span[0], sum(span)):
            self.change(place, self.cell(place)[0], taker)
        return span

    def handed(self):
        rows = [row + ("slot",) for row in self.drawers.handed()]
        rows += [row + ("extent",) for row in self.extents.handed()]
        rows += [row + ("piece",) for heap in self.heaps.values() for row in heap.handed()]
        return sorted(rows)

    def heap_beds(self):
        return [(page * self.width, self.width * 2 ** self.heap) for page in sorted(self.heaps)]

    def settle(self):
        count = self.drawers.settle()
        self.extents.shrink()
        return count

    def tick(self):
        return self.extents.tick()

    def first_broken(self):
        return self.drawers.first_broken() or self.extents.first_broken()

    def is_paper(self, paper, size, align, urgent):
        """The judgement of a paper of the route, for any value, over sound heaps."""
        try:
            route = self.route(size, align)
        except Refused:
            return False
        if route[0] == "slot":
            return self.drawers.is_paper(paper, self.zone, urgent) and paper[1] == route[1]
        if route[0] == "extent":
            return self.extents.is_paper(paper, route[1], route[2], self.zone, urgent) and paper[1] == 200
        if type(paper) is not tuple or len(paper) != 3 or type(paper[0]) is not str or paper[0] != "heaps":
            return False
        rows = paper[1]
        if type(rows) is not tuple or len(rows) != len(self.heaps):
            return False
        for row, (page, heap) in zip(rows, sorted(self.heaps.items())):
            if repr(row) != repr((page * self.width, ("heap", heap.free()))):
                return False
            if any(plain_serves(p, n, size, align) is not None for p, n in heap.free()):
                return False
        return self.buddies.is_paper(self.heap, paper[2], self.zone, urgent)


class PlainSession:
    """A slow session: before each request the whole model is copied, and a refused one is put back."""

    def __init__(self, store):
        self.store, self.names, self.past = store, {}, []

    def image(self):
        return self.store.image()

    def thing(self, user, name, kind):
        if self.names.get((user, name), (None,))[0] != kind:
            raise Refused("Unknown", "name")
        return self.names[user, name]

    def work(self, request):
        """Does a request and returns its value."""
        word, user, name, *rest = request + (None,) * 3
        store, spaces, width = self.store, self.store.spaces, self.store.width
        if word == "tick":
            return tuple(store.tick())
        if word == "settle":
            return store.settle()
        if word in ("take", "map"):
            if (user, name) in self.names:
                raise Refused("BadValue", "name")
            if word == "take":
                span = store.take(rest[0], user, align=rest[1])
                self.names[user, name] = ("span",) + span
                return span
            if rest[0] > spaces.pages:
                raise Refused("BadValue", "count")
            area = spaces.reserve(user, rest[0])
            spaces.commit_pages(user, area[0], rest[0])
            self.names[user, name] = ("area",) + area
            return area
        if word in ("pass", "share") and (rest[0] == user or (rest[0], name) in self.names):
            raise Refused("BadValue", "taker")
        if word in ("resize", "free", "pass", "put", "get"):
            _, start, size = self.thing(user, name, "span")
            if word == "resize":
                span = store.resize(start, user, rest[0])
                self.names[user, name] = ("span",) + span
                return span
            if word in ("free", "pass"):
                span = store.give_back(start, user) if word == "free" else store.pass_to(start, user, rest[0])
                del self.names[user, name]
                if word == "pass":
                    self.names[rest[0], name] = ("span",) + span
                return span
            if rest[0] >= size:
                raise Refused("Unknown", "offset")
            found = store.cell(start + rest[0])
            if found[1] != user:
                raise Refused("NotHeld", start + rest[0], found[1])
            if word == "put":
                store.put(start + rest[0], rest[1])
                return None
            return found[0]
        _, start, size = self.thing(user, name, "area")
        count = size // width
        if word in ("store", "load") and rest[0] >= size:
            raise Refused("Unknown", "offset")
        if word == "store":
            return spaces.store(user, start + rest[0], rest[1])
        if word == "load":
            return spaces.load(user, start + rest[0])
        if word == "unmap":
            spaces.release(user, start, count)
            del self.names[user, name]
            return (start, size)
        if word == "share":
            area = spaces.share(user, start, count, rest[0])
            self.names[rest[0], name] = ("area",) + area
            return area
        return spaces.protect(user, start, count, rest[0]) if word == "protect" else spaces.put_out(user, start, count)

    def attempt(self, request):
        """The outcome of a request without a budget, its cost, and the model before and after it."""
        before = copy.deepcopy((self.store, self.names))
        image = self.image()
        try:
            outcome = ("done", self.work(request))
        except Refused as refusal:
            self.store, self.names = before
            return ("refused",) + refusal.told, 0, before
        return outcome, cost_of(image, self.image()), before

    def trial(self, request):
        outcome, cost, before = self.attempt(request)
        self.store, self.names = before
        return outcome, cost

    def do(self, request, budget=None):
        outcome, cost, before = self.attempt(request)
        if budget is not None and cost > budget:
            self.store, self.names = before
            return ("refused", "Cut", (cost, budget)), 0
        if outcome[0] == "done":
            self.past.append((request, outcome, before))
        return outcome, cost

    def undo(self):
        request, _, (self.store, self.names) = self.past.pop()
        return request

    def names_of(self, user):
        return sorted((name,) + thing for (each, name), thing in self.names.items() if each == user)
