"""Points 59 to 62 and the interface of store.py."""

import random
import time
import unittest

from allgivenback.buddies import Buddies, start_buddies
from allgivenback.drawers import Drawers
from allgivenback.extents import Extents
from allgivenback.ground import Ground, ground_of
from allgivenback.mapped import Mapped
from allgivenback.store import Store, is_no_room
from tests.helpers import ODD_VALUES, bendings, check_wrong, is_refusal, no_align_upto, no_integer_in, outcome, play
from tests.helpers import state, told_by
from tests.store_models import PlainStore
from tests.test_buddies import NO_FLAGS
from tests.test_drawers import NO_USERS
from tests.test_layout import NO_MAPS
from tests.test_marks import with_place
from tests.test_slabs import NO_BUDDIES

GREATEST = 1000000000
LOOKS = ("handed", "heap_beds", "first_broken")


class StoreBase(unittest.TestCase):
    def make(self, count=48, width=16, fill=0, zones=((32, 0, 0),), **named):
        """Makes a ground with a map, a store over it and its plain model."""
        self.ground = Ground(count, width, fill=fill)
        start_buddies(self.ground, zones)
        self.maker = lambda ground: Store(Buddies(ground), **named)
        self.store = self.maker(self.ground)
        self.plain = PlainStore(count, width, fill, zones, **named)
        self.new = self.ground.image()
        self.named = named

    def play(self, *values, **named):
        told = play(self, self.maker, self.ground, self.plain, *values, **named)
        if not is_refusal(told):
            for name in LOOKS:
                self.assertEqual(getattr(self.store, name)(), getattr(self.plain, name)())
        return told

    def number(self, span, base=100):
        """Gives each place of a span a word of its own."""
        for k in range(span[1]):
            self.ground.write(span[0] + k, base + k, self.ground.holder_at(span[0] + k))
            self.plain.put(span[0] + k, base + k)

    def words(self, span):
        return list(self.ground.image()[2][span[0]:sum(span)])

    def pass_on(self, place, taker):
        """Passes one place of a user on to another one."""
        word, holder = self.plain.cell(place)
        self.ground.pass_on(place, 1, holder, taker)
        self.plain.change(place, word, taker)

    def poke(self, place, word):
        self.ground.poke(place, word)
        self.plain.buddies.poke(place, word)

    def part(self, span):
        """The part in which a span lies."""
        label = Buddies(self.ground).block_at(span[0])[2]
        return {200: "extent", 300: "piece"}.get(label, "slot")

    def finish(self):
        """Gives all spans back, settles and looks at the image."""
        for start, size, _, _ in self.store.handed():
            for place in range(start, start + size):
                self.pass_on(place, 1)
            self.play("give_back", start, 1)
        self.play("settle")
        self.assertEqual(self.ground.image(), self.new)


class MakingTest(StoreBase):
    def test_fields(self):
        self.make()
        buddies = Buddies(self.ground)
        store = Store(buddies)
        self.assertIs(store.buddies, buddies)
        self.assertEqual([type(store.drawers), type(store.extents), type(store.spaces)], [Drawers, Extents, Mapped])
        self.assertEqual([store.handed(), store.heap_beds(), store.first_broken()], [[], [], None])
        self.assertEqual(len(store.spaces.table(1)), 8)
        self.assertEqual(self.ground.image(), self.new)

    def test_wrong(self):
        ground = Ground(40, 16)
        buddies = start_buddies(ground, [(4, 0, 0), (4, 0, 1), (4, 0, 0), (4, 0, 3)])
        before = state(ground)
        good = {
            "buddies": buddies, "lot": 8, "spare": 256, "arena": 8, "limit": 1000, "heap": 6, "pages": 32, "slow": 3,
            "zone": 4}
        bad = {
            "buddies": NO_BUDDIES, "lot": no_integer_in(1, 8), "spare": no_integer_in(0, 256),
            "arena": no_integer_in(0, 8), "limit": no_integer_in(0, 1000), "heap": no_integer_in(1, 6),
            "pages": no_integer_in(1, 32), "slow": no_integer_in(0, 4) + (2, 4), "zone": no_integer_in(1, 4)}
        check_wrong(self, Store, good, bad, named=tuple(good)[1:])
        low = {"lot": 1, "spare": 0, "arena": 0, "limit": 0, "heap": 1, "pages": 1, "slow": 0, "zone": 1}
        self.assertIsNone(told_by(Store, buddies, **low))
        self.assertEqual(state(ground), before)

    def test_defaults(self):
        self.make(count=80, zones=((56, 0, 0),))
        spans = [self.play("take", 8, 1) for _ in range(9)]
        self.assertEqual(len(self.store.drawers.starts_in(1, 5)), 1)
        for span in spans:
            self.play("give_back", span[0], 1)
        self.store.drawers.flush(1)
        self.plain.drawers.flush(1)
        self.assertEqual(len(Buddies(self.ground).given(105)), 1)
        self.assertEqual(self.store.settle(), self.plain.settle())
        piece = self.play("take", 16, 1)
        self.assertEqual(self.store.heap_beds(), [(piece[0] - 3, 64)])
        self.play("give_back", piece[0], 1)
        extent = self.play("take", 128, 1)
        self.assertEqual(self.play("take", 129, 1), ("Unknown", ("size",)))
        self.play("give_back", extent[0], 1)
        self.assertEqual([self.play("tick") for _ in range(4)], [[], [], [], [extent[0] // 16]])
        self.assertEqual(len(self.store.spaces.table(1)), 8)
        self.assertEqual(told_by(self.store.spaces.put_out, 1, 0, 1), ("Unknown", ("slow",)))
        self.assertEqual(self.ground.image(), self.new)

    def test_arguments_reach_the_keepers(self):
        self.make(count=90, zones=((30, 0, 0), (30, 0, 0), (3, 3, 0)), lot=3, spare=0, arena=1, limit=0, heap=1,
                  pages=2, slow=3, zone=2)
        first = [row[0] for row in self.plain.buddies.zones]
        self.play("take", 1, 1)
        self.assertEqual(len(self.store.drawers.starts_in(1, 0)), 2)
        piece = self.play("take", 8, 1)
        self.assertEqual(self.play("take", 8, 1, align=16)[1] >= 8, True)
        extent = self.play("take", 17, 1)
        self.assertEqual(extent[1], 32)
        self.assertEqual(self.play("take", 33, 1), ("Unknown", ("size",)))
        for span in (piece, extent):
            self.assertIn(span[0] // 16, range(first[1], first[2]))
        self.play("give_back", extent[0], 1)
        self.assertEqual(self.play("tick"), [extent[0] // 16])
        self.assertEqual(told_by(self.store.spaces.reserve, 1, 3), ("BadValue", ("count",)))
        self.store.spaces.reserve(1, 2)
        self.store.spaces.commit_pages(1, 0, 2)
        self.store.spaces.store(1, 0, 5)
        self.assertEqual(self.store.spaces.put_out(1, 0, 1), 1)
        self.assertIn(self.store.spaces.table(1)[0][2], range(first[2], first[2] + 3))
        self.assertEqual(sorted(block[2] for block in Buddies(self.ground).given() if block[2] > 300), [402, 410])


class RouteTest(StoreBase):
    def test_each_size(self):
        for width, heap, arena in ((16, 2, 3), (16, 1, 0), (32, 1, 2), (64, 3, 1)):
            self.make(count=130, width=width, zones=((90, 0, 0),), heap=heap, arena=arena)
            quarter = width * 2 ** heap // 4
            largest = {16: 8, 32: 16, 64: 32}[width]
            for size in (1, largest, largest + 1, quarter, quarter + 1, width, width + 1, width * 2 ** arena):
                span = self.play("take", size, 1)
                part = "slot" if size <= largest else "piece" if size <= quarter else "extent"
                if part == "extent" and size > width * 2 ** arena:
                    self.assertEqual(span, ("Unknown", ("size",)))
                    continue
                self.assertEqual(self.part(span), part, size)
                self.assertGreaterEqual(span[1], size)
                self.assertEqual(self.words(span), [0] * span[1])
            for size in (width * 2 ** arena + 1, 16384, GREATEST):
                if size > quarter:
                    self.assertEqual(self.play("take", size, 1), ("Unknown", ("size",)))
            self.finish()

    def test_each_alignment(self):
        for width, heap, arena in ((16, 2, 3), (32, 3, 1), (64, 1, 2)):
            self.make(count=130, width=width, zones=((90, 0, 0),), heap=heap, arena=arena)
            for align in [2 ** k for k in range(31)]:
                for size in (1, 3, width * 2 ** heap // 4, width * 2 ** heap // 4 + 1):
                    told = self.play("take", size, 1, align=align)
                    if align <= 4 and size <= width // 2:
                        part = "slot"
                    elif align <= width and size <= width * 2 ** heap // 4:
                        part = "piece"
                    elif align <= width * 2 ** arena and size <= width * 2 ** arena:
                        part = "extent"
                    else:
                        self.assertEqual(told, ("Unknown", ("size",)))
                        continue
                    self.assertEqual([self.part(told), told[0] % align], [part, 0])
                    self.play("give_back", told[0], 1)
            self.finish()

    def test_alignment_of_an_extent_is_in_pages(self):
        self.make(fill=3)
        spans = [self.play("take", size, 2, align=align) for size, align in ((17, 1), (20, 64), (1, 32), (40, 2))]
        self.assertEqual([span[1] for span in spans], [32, 32, 16, 48])
        self.assertEqual([spans[1][0] % 64, spans[2][0] % 32], [0, 0])
        for span in spans:
            self.assertEqual(self.words(span), [3] * span[1])

    def test_heaps_in_order(self):
        self.make(heap=1)
        spans = [self.play("take", 8, 1, align=8) for _ in range(7)]
        beds = self.play("heap_beds")
        self.assertGreater(len(beds), 2)
        self.assertEqual(beds, sorted(beds))
        self.play("give_back", spans[2][0], 1)
        self.assertEqual(self.play("take", 8, 3, align=8), spans[2])
        # A heap without used pieces is the buddies' again.
        for span in spans:
            holder = self.ground.holder_at(span[0])
            self.play("give_back", span[0], holder)
        self.assertEqual(self.play("heap_beds"), [])
        self.assertEqual(self.ground.image(), self.new)

    def test_greatest_orders(self):
        self.make(count=256, zones=((180, 0, 0),), arena=8, heap=6)
        span = self.play("take", 256, 1, align=16)
        self.assertEqual([self.part(span), self.store.heap_beds()[0][1]], ["piece", 1024])
        self.assertEqual(self.resize(span, 200), (span[0], 200))
        # No ground has a free block of order 8, since page 0 is a map page.
        for size in (257, 4096):
            told = self.play("take", size, 1)
            self.assertEqual(told[1][0][:3], ("extents", 200, ()))
            self.assertIs(is_no_room(self.ground.image(), told[1][0], size, arena=8, heap=6), True)
        for size, align in ((4097, 1), (GREATEST, 1), (257, 8192), (GREATEST, 1073741824)):
            self.assertEqual(self.play("take", size, 1, align=align), ("Unknown", ("size",)))
        self.assertEqual(self.play("take", 257, 1, align=4096)[0], "NoRoom")
        self.finish()

    def resize(self, span, size):
        return self.play("resize", span[0], 1, size)

    def test_urgent(self):
        self.make(zones=((8, 8, 0),), heap=1, arena=2)
        for size in (3, 16, 20):
            self.assertEqual(self.play("take", size, 1)[0], "NoRoom")
        for size in (3, 8, 20):
            self.assertFalse(is_refusal(self.play("take", size, 1, urgent=True)))

    def test_wrong(self):
        self.make()
        before = state(self.ground)
        users = NO_USERS
        for size in (1, GREATEST):
            check_wrong(self, self.store.take, {"size": size, "holder": 8, "align": 1073741824, "urgent": True}, {
                "size": no_integer_in(1, GREATEST), "holder": users, "align": no_align_upto(1073741824),
                "urgent": NO_FLAGS}, named=("align", "urgent"))
            for start in (0, 767):
                starts = no_integer_in(0, 767)
                check_wrong(self, self.store.give_back, {"start": start, "holder": 1}, {
                    "start": starts, "holder": users})
                check_wrong(self, self.store.resize, {"start": start, "holder": 1, "size": size}, {
                    "start": starts, "holder": users, "size": no_integer_in(1, GREATEST)})
                check_wrong(self, self.store.pass_to, {"start": start, "holder": 8, "taker": 8}, {
                    "start": starts, "holder": users, "taker": users})
        self.assertEqual(state(self.ground), before)


class SettleTest(StoreBase):
    def test_take_settles_and_tries_once_more(self):
        self.make(count=30, zones=((10, 0, 0),), arena=2, heap=1)
        slots = [self.play("take", 3, user) for user in range(1, 5)]
        for span, user in zip(slots, range(1, 5)):
            self.play("give_back", span[0], user)
        extent = self.play("take", 60, 1)
        self.play("give_back", extent[0], 1)
        # The slabs and the free arena are in the way of two heaps and an arena of 4 pages.
        self.assertFalse(is_refusal(self.play("take", 20, 1, align=16)))
        self.assertNotEqual(self.plain.drawers.starts_in(1, 2), None)
        while not is_refusal(told := self.play("take", 8, 2, align=8)):
            pass
        self.assertEqual(told[0], "NoRoom")
        self.finish()

    def test_no_room_changes_nothing(self):
        self.make(count=20, zones=((3, 0, 0),), arena=1, heap=1)
        slot = self.play("take", 3, 1)
        self.play("give_back", slot[0], 1)
        before = self.ground.image()
        told = self.play("take", 33, 1)
        self.assertEqual(told, ("Unknown", ("size",)))
        self.assertFalse(is_refusal(self.play("take", 20, 1)))
        self.assertNotEqual(self.ground.image(), before)
        waiting = self.play("take", 1, 1)
        self.play("give_back", waiting[0], 1)
        before = self.ground.image()
        told = self.play("take", 20, 2)
        self.assertEqual(told[0], "NoRoom")
        self.assertEqual(self.ground.image(), before)
        # The paper is right for the image that settling would leave, and not for the one that is left.
        self.assertIs(is_no_room(before, told[1][0], 20, arena=1, heap=1), False)
        copy = ground_of(before)
        self.assertGreater(self.maker(copy).settle(), 0)
        self.assertIs(is_no_room(copy.image(), told[1][0], 20, arena=1, heap=1), True)

    def test_settle_counts_slots(self):
        self.make(lot=3)
        for user in (1, 2):
            self.play("take", 5, user)
        extent = self.play("take", 60, 1)
        self.play("give_back", extent[0], 1)
        self.assertEqual(self.play("settle"), 4)
        self.assertEqual(self.store.extents.arenas(), [])
        self.assertEqual(self.play("settle"), 0)
        self.finish()

    def test_tick(self):
        self.make(arena=1, limit=2)
        span = self.play("take", 20, 1)
        self.assertEqual(self.play("tick"), [])
        self.play("give_back", span[0], 1)
        self.assertEqual(self.play("tick"), [])
        self.assertEqual(self.play("tick"), [span[0] // 16])
        self.assertEqual(self.play("tick"), [])


class GiveBackTest(StoreBase):
    def setUp(self):
        self.make(fill=2, heap=1, arena=2)
        self.slot = self.play("take", 3, 1)
        self.piece = self.play("take", 8, 1, align=8)
        self.extent = self.play("take", 30, 1)
        self.spans = (self.slot, self.piece, self.extent)
        for span in self.spans:
            self.number(span)

    def test_each_part(self):
        self.assertEqual(self.play("handed"), sorted([
            self.slot + (1, "slot"), self.piece + (1, "piece"), self.extent + (1, "extent")]))
        for span in self.spans:
            self.assertEqual(self.play("give_back", span[0], 1), span)
        self.play("settle")
        self.assertEqual(self.ground.image(), self.new)

    def test_unknown_and_not_held(self):
        for name, rest in (("give_back", ()), ("pass_to", (2,)), ("resize", (4,)), ("resize", (GREATEST,))):
            for span in self.spans:
                self.assertEqual(self.play(name, span[0] + 1, 1, *rest), ("Unknown", ("start",)))
                self.assertEqual(self.play(name, span[0], 2, *rest), ("NotHeld", (span[0], 1)))
            for place in (0, 5, self.ground.top - 1, self.piece[0] - 1, self.slot[0] - 1):
                self.assertEqual(self.play(name, place, 1, *rest), ("Unknown", ("start",)))
            # A slot that is free or in a drawer is not held, but it is the start of a slot.
            drawer = self.store.drawers.starts_in(1, 2)[0]
            self.assertEqual(self.play(name, drawer, 1, *rest), ("NotHeld", (drawer, 11)))
            free = [start for start in range(self.slot[0] - 4, self.slot[0] + 12)
                    if self.ground.holder_at(start) == 22 and self.ground.word_at(start) == 60002]
            self.assertEqual(self.play(name, free[0], 1, *rest), ("NotHeld", (free[0], 22)))

    def test_blocks_of_no_part(self):
        for label in (99, 106, 110, 199, 201, 299, 301, 401, 402, 410, 999):
            start, size = Buddies(self.ground).take(0, label, 4)
            for name, rest in (("give_back", ()), ("pass_to", (2,)), ("resize", (4,))):
                self.assertEqual(told_by(getattr(self.store, name), start, 4, *rest), ("Unknown", ("start",)))
            Buddies(self.ground).give_back(start, 4)

    def test_parts_of_spans_passed_on(self):
        for span in self.spans:
            last = span[0] + span[1] - 1
            self.pass_on(last, 3)
            for name, rest in (("give_back", ()), ("pass_to", (2,)), ("resize", (4,)), ("resize", (span[1],))):
                self.assertEqual(self.play(name, span[0], 1, *rest), ("NotHeld", (last, 3)))

    def test_red_places(self):
        self.poke(self.slot[0] + 3, 9)
        for name, rest in (("give_back", ()), ("resize", (1,)), ("resize", (GREATEST,))):
            self.assertEqual(self.play(name, self.slot[0], 1, *rest), ("Broken", (self.slot[0] + 3, 9, 60001)))
            self.assertEqual(self.play(name, self.slot[0], 5, *rest), ("Broken", (self.slot[0] + 3, 9, 60001)))
        # Passing on does not look at red places.
        self.assertEqual(self.play("pass_to", self.slot[0], 1, 6), self.slot)
        self.assertEqual(self.play("first_broken"), (self.slot[0] + 3, 9, 60001))

    def test_pass_to(self):
        for span in self.spans:
            words = self.words(span)
            self.assertEqual(self.play("pass_to", span[0], 1, 1), span)
            self.assertEqual(self.play("pass_to", span[0], 1, 8), span)
            self.assertEqual([self.words(span), self.ground.holder_at(span[0])], [words, 8])
            self.assertEqual(self.play("pass_to", span[0], 1, 8), ("NotHeld", (span[0], 8)))
            self.assertEqual(self.play("give_back", span[0], 8), span)

    def test_broken_heap(self):
        bed = self.store.heap_beds()[0]
        for place, word, due in ((bed[0], 9, bed[1]), (self.piece[0] - 1, 0, 0)):
            before = self.ground.word_at(place)
            self.ground.poke(place, word)
            state_before = state(self.ground)
            broken = ("Broken", (place, word, due))
            for call in (
                    lambda: self.store.give_back(self.piece[0], 1), lambda: self.store.pass_to(self.piece[0], 1, 2),
                    lambda: self.store.resize(self.piece[0], 1, GREATEST), lambda: self.store.take(8, 1, align=8),
                    lambda: self.store.give_back(bed[0] + 1, 1), lambda: self.store.handed()):
                self.assertEqual(told_by(call), broken)
            self.assertEqual(self.store.first_broken(), (place, word, due))
            self.assertEqual(state(self.ground), state_before)
            self.assertIsNone(told_by(self.store.pass_to, self.extent[0], 1, 1))
            self.ground.poke(place, before)
        self.assertIsNone(self.store.first_broken())

    def test_order_of_first_broken(self):
        # An extent's free page, a heap and a slab are damaged: the slab is told first, then the extent.
        bed = self.store.heap_beds()[0]
        free = self.store.extents.runs().spans[0][0] * 16
        self.ground.poke(bed[0] + 1, 0)
        self.assertEqual(self.store.first_broken(), (bed[0] + 1, 0, bed[0] + 2))
        self.ground.poke(free + 2, 9)
        self.assertEqual(self.store.first_broken(), (free + 2, 9, 2))
        self.ground.poke(self.slot[0] - 1, 7)
        self.assertEqual(self.store.first_broken(), (self.slot[0] - 1, 7, 60001))

    def test_second_heap_broken(self):
        self.make(heap=1)
        for _ in range(3):
            self.play("take", 8, 1, align=8)
        beds = self.store.heap_beds()
        self.assertEqual(len(beds), 3)
        self.ground.poke(beds[1][0], 9)
        self.assertEqual(self.store.first_broken(), (beds[1][0], 9, 32))
        self.ground.poke(beds[2][0], 8)
        self.assertEqual(self.store.first_broken(), (beds[1][0], 9, 32))
        self.assertEqual(told_by(self.store.handed), ("Broken", (beds[1][0], 9, 32)))

    def test_lower_heap_is_asked_first(self):
        self.make(heap=2)
        spans = [self.play("take", 12, 1) for _ in range(8)]
        low, high = self.store.heap_beds()
        self.play("give_back", min(spans)[0], 1)
        self.ground.poke(high[0], 9)
        # The broken heap is asked only if no heap before it has room.
        self.assertEqual(self.store.take(12, 1)[0], min(spans)[0])
        self.assertEqual(told_by(self.store.take, 12, 1), ("Broken", (high[0], 9, high[1])))
        self.assertEqual(told_by(self.store.give_back, max(spans)[0], 1), ("Broken", (high[0], 9, high[1])))
        self.assertIsNone(told_by(self.store.give_back, min(spans)[0], 1))
        self.ground.poke(low[0], 9)
        self.assertEqual(told_by(self.store.handed), ("Broken", (low[0], 9, low[1])))


class ResizeTest(StoreBase):
    def setUp(self):
        self.make(count=60, fill=2, zones=((44, 0, 0),), heap=2, arena=2)

    def take(self, size, user=1, **named):
        span = self.play("take", size, user, **named)
        self.number(span)
        return span

    def resize(self, span, size):
        """Resizes a span and looks at its words."""
        before = self.words(span)
        told = self.play("resize", span[0], 1, size)
        self.assertFalse(is_refusal(told), told)
        kept = min(len(before), told[1])
        self.assertEqual(self.words(told)[:kept], before[:kept])
        if told != span:
            self.assertEqual(self.words(told)[kept:], [2] * (told[1] - kept))
        return told

    def test_slots(self):
        span = self.take(5)
        for size in (5, 6):
            self.assertEqual(self.resize(span, size), span)
        smaller = self.resize(span, 3)
        self.assertEqual(smaller[1], 3)
        self.assertEqual(self.resize(smaller, 8)[1], 8)

    def test_extents(self):
        span = self.take(40)
        for size in (33, 48):
            self.assertEqual(self.resize(span, size), span)
        longer = self.resize(span, 49)
        self.assertEqual(longer[1], 64)
        self.assertEqual(self.resize(longer, 17)[1], 32)
        self.assertEqual(told_by(self.store.resize, self.store.handed()[0][0], 1, 65), ("Unknown", ("size",)))

    def test_pieces_in_place_and_within_the_heap(self):
        first, second = self.take(9), self.take(9)
        self.assertEqual(self.resize(first, 9), first)
        self.assertEqual(self.resize(second, 16)[0], second[0])
        moved = self.resize(first, 13)
        self.assertEqual(self.part(moved), "piece")
        self.assertNotEqual(moved[0], first[0])
        self.assertEqual(len(self.store.heap_beds()), 1)

    def test_pieces_to_another_heap(self):
        spans = [self.take(12) for _ in range(4)]
        self.assertEqual(len(self.store.heap_beds()), 1)
        moved = self.resize(spans[1], 16)
        beds = self.store.heap_beds()
        self.assertEqual(len(beds), 2)
        here = [bed for bed in beds if bed[0] <= moved[0] < sum(bed)]
        there = [bed for bed in beds if bed[0] <= spans[0][0] < sum(bed)]
        self.assertNotEqual(here, there)
        # The last piece of a heap takes the heap along.
        self.assertEqual(self.part(self.resize(moved, 20)), "extent")
        self.assertEqual(self.store.heap_beds(), there)

    def test_between_all_parts(self):
        sizes = {"slot": 4, "piece": 12, "extent": 50}
        for first in sizes:
            for second in sizes:
                span = self.take(sizes[first])
                self.assertEqual(self.part(span), first)
                told = self.resize(span, sizes[second])
                self.assertEqual(self.part(told), second)
                self.play("give_back", told[0], 1)
        self.finish()

    def test_checks_come_first(self):
        span = self.take(4)
        self.assertEqual(self.play("resize", span[0], 2, GREATEST), ("NotHeld", (span[0], 1)))
        self.assertEqual(self.play("resize", span[0], 1, GREATEST), ("Unknown", ("size",)))
        self.assertEqual(self.play("resize", span[0] + 1, 1, GREATEST), ("Unknown", ("start",)))
        self.assertEqual(self.play("resize", span[0], 1, 65), ("Unknown", ("size",)))
        self.poke(span[0] - 1, 3)
        # Also if the slot would stay as it is.
        self.assertEqual(self.play("resize", span[0], 1, 4), ("Broken", (span[0] - 1, 3, 60001)))

    def test_no_room(self):
        self.make(count=20, zones=((4, 0, 0),), heap=1, arena=1)
        slot = self.take(4)
        extent = self.take(20)
        self.assertEqual(self.play("resize", slot[0], 1, 8)[0], "NoRoom")
        told = self.play("resize", slot[0], 1, 32)
        self.assertEqual(told[0], "NoRoom")
        copy = ground_of(self.ground.image())
        self.maker(copy).settle()
        self.assertIs(is_no_room(copy.image(), told[1][0], 32, arena=1, heap=1), True)
        self.assertEqual(self.play("resize", extent[0], 1, 4)[1], 4)
        self.assertEqual(self.play("resize", slot[0], 1, 32)[1], 32)

    def test_resize_is_not_urgent(self):
        self.make(count=20, fill=2, zones=((6, 4, 0),), heap=1, arena=1)
        slot = self.take(3)
        told = self.play("resize", slot[0], 1, 20)
        self.assertEqual(told[0], "NoRoom")
        self.assertEqual(told[1][0][3], ((1, "few", 5),))
        self.assertFalse(is_refusal(self.play("take", 20, 1, urgent=True)))

    def test_resize_settles(self):
        self.make(count=20, fill=2, zones=((4, 0, 0),), heap=1, arena=1, spare=2)
        slot = self.take(8)
        other = self.play("take", 1, 2)
        self.play("give_back", other[0], 2)
        third = self.play("take", 2, 2)
        self.play("give_back", third[0], 2)
        self.assertEqual(len(Buddies(self.ground).given()), 3)
        told = self.resize(slot, 20)
        self.assertEqual(told[1], 32)


class PaperTest(StoreBase):
    """Papers of each route, right and bent."""

    def exhaust(self, size, align):
        """Takes until there is no room, and returns the paper and the image that settling leaves."""
        while True:
            told = self.play("take", size, 1, align=align)
            if is_refusal(told):
                break
        self.assertEqual(told[0], "NoRoom")
        self.play("settle")
        return told[1][0], self.ground.image()

    def judge(self, image, paper, size, **named):
        return is_no_room(image, paper, size, **named)

    def test_each_route(self):
        for size, align, head in ((3, 1, "drawers"), (16, 16, "heaps"), (20, 1, "extents"), (20, 64, "extents")):
            for zones in (((12, 0, 0),), ((5, 2, 0), (9, 0, 1))):
                named = {"arena": 2, "heap": 2, "zone": len(zones)}
                self.make(count=30, zones=zones, **named)
                held = self.play("take", 5, 3)
                paper, image = self.exhaust(size, align)
                self.assertEqual(paper[0], head)
                self.assertIs(self.judge(image, paper, size, align=align, **named), True)
                self.assertIs(self.plain.is_paper(paper, size, align, False), True)
                for bent in bendings(paper):
                    due = self.plain.is_paper(bent, size, align, False)
                    self.assertIs(self.judge(image, bent, size, align=align, **named), due, bent)
                self.assertIs(self.judge(image, paper, 1, **named), head == "drawers" and size == 1)
                self.assertIs(self.judge(image, paper, GREATEST, align=align, **named), False)
                self.assertIs(self.judge(image, paper, size, align=1073741824, **named), False)
                for value in ODD_VALUES:
                    self.assertIs(self.judge(image, value, size, align=align, **named), False)
                self.play("give_back", held[0], 3)

    def test_other_orders_and_labels(self):
        self.make(count=30, zones=((12, 0, 0),), heap=2, arena=2)
        paper, image = self.exhaust(16, 16)
        self.assertIs(self.judge(image, paper, 16, align=16, heap=2), True)
        self.assertIs(self.judge(image, paper, 16, align=16, heap=3), False)
        self.assertIs(self.judge(image, paper, 16, align=16, heap=1), False)
        self.assertIs(self.judge(image, ("heaps", (), paper[2]), 16, align=16), False)
        self.make(count=30, zones=((12, 0, 0),), heap=2, arena=2)
        paper, image = self.exhaust(20, 1)
        self.assertIs(self.judge(image, paper, 20, arena=2), True)
        self.assertIs(self.judge(image, paper, 20, arena=3), False)
        for label in (199, 201, 300, True, "200"):
            self.assertIs(self.judge(image, ("extents", label) + paper[2:], 20, arena=2), False)

    def test_label_of_the_extents(self):
        self.make(count=30, zones=((3, 0, 0),), arena=2)
        told = self.play("take", 20, 1)
        inner = ((1, "few", 3),)
        self.assertEqual(told, ("NoRoom", (("extents", 200, (), inner),)))
        for label in (1, 199, 200, 201, 300, 999):
            paper = ("extents", label, (), inner)
            self.assertIs(self.judge(self.new, paper, 20, arena=2), label == 200)

    def test_defaults_of_the_judge(self):
        self.make(count=40, zones=((3, 3, 0), (7, 0, 1)), zone=1)
        # An arena has 8 pages and a heap has 4, and a call that is not urgent leaves 3 of 3 pages.
        for size, align, paper in (
                (20, 1, ("extents", 200, (), ((1, "few", 3),))), (16, 16, ("heaps", (), ((1, "few", 3),)))):
            self.assertEqual(self.play("take", size, 1, align=align), ("NoRoom", (paper,)))
            self.assertIs(self.judge(self.new, paper, size, align=align), True)
            self.assertIs(self.judge(self.new, paper, size, align=align, zone=2), False)
        self.make(count=40, zones=((3, 0, 0),))
        paper = ("heaps", (), ((1, "few", 3),))
        self.assertIs(self.judge(self.new, paper, 16, align=16), True)
        self.assertIs(self.judge(self.new, paper, 16, align=16, heap=1), False)
        for size, align, name, order in ((100, 1, "arena", 3), (16, 16, "heap", 2)):
            self.make(count=40, zones=((24, 0, 0),))
            paper, image = self.exhaust(size, align)
            self.assertGreater(len(paper[1 if name == "heap" else 2]), 0)
            self.assertIs(self.judge(image, paper, size, align=align), True)
            for other in range(1, 7):
                self.assertIs(self.judge(image, paper, size, align=align, **{name: other}), other == order)
        # With arenas of one page there is no extent of more places.
        self.make(count=40, zones=((3, 3, 0),), arena=0)
        told = self.play("take", 9, 1, align=32)
        self.assertEqual(told, ("Unknown", ("size",)))
        told = self.play("take", 16, 1)
        self.assertEqual(told, ("NoRoom", (("heaps", (), ((1, "few", 3),)),)))
        self.make(count=40, zones=((3, 3, 0),), arena=0, heap=1)
        told = self.play("take", 16, 1)
        self.assertEqual(told, ("NoRoom", (("extents", 200, (), ((1, "few", 3),)),)))
        self.assertIs(self.judge(self.new, told[1][0], 16, arena=0, heap=1), True)
        self.assertIs(self.judge(self.new, told[1][0], 17, arena=0, heap=1), False)

    def test_class_of_the_route(self):
        self.make(count=30, zones=((1, 0, 0),))
        paper, image = self.exhaust(3, 1)
        self.assertEqual(paper[:2], ("drawers", 2))
        for size, align in ((1, 1), (2, 1), (3, 1), (3, 2), (4, 1), (3, 4)):
            self.assertIs(self.judge(image, paper, size, align=align), size == 3 and align == 1)

    def test_urgent_paper(self):
        self.make(count=30, zones=((6, 6, 0),), heap=1)
        told = self.play("take", 8, 1, align=8)
        self.assertEqual(told, ("NoRoom", (("heaps", (), ((1, "few", 6),)),)))
        image = self.ground.image()
        self.assertIs(self.judge(image, told[1][0], 8, align=8, heap=1), True)
        self.assertIs(self.judge(image, told[1][0], 8, align=8, heap=1, urgent=True), False)

    def test_broken_heap_makes_no_right_paper(self):
        self.make(count=30, zones=((12, 0, 0),), heap=2)
        paper, image = self.exhaust(16, 16)
        for place in (paper[1][0][0], paper[1][0][0] + 2):
            broken = with_place(image, place, word=9)
            self.assertIs(self.judge(broken, paper, 16, align=16), False)

    def test_damaged_map_gives_a_flag(self):
        self.make(count=20, zones=((8, 0, 0),), heap=1, arena=1)
        self.play("take", 8, 1, align=8)
        papers = []
        for size, align in ((3, 1), (8, 8), (20, 1)):
            papers.append((size, align, self.exhaust(size, align)[0]))
        image = self.ground.image()
        base = 2 + 4
        for place in range(base, base + 80):
            for word in (0, 1, 2, 21, 22, 29, 30, 100, 102, 200, 300, 65535):
                broken = with_place(image, place, word=word)
                for size, align, paper in papers:
                    self.assertIn(self.judge(broken, paper, size, align=align, heap=1, arena=1), (True, False))

    def test_wrong(self):
        self.make(count=40, zones=((8, 0, 0), (8, 0, 1)))
        for paper in (("heaps", (), ((2, "few", 8),)), None):
            check_wrong(self, is_no_room, {
                "image": self.new, "paper": paper, "size": 20, "align": 1073741824, "arena": 8, "heap": 6, "zone": 2,
                "urgent": False}, {
                "image": NO_MAPS, "size": no_integer_in(1, GREATEST), "align": no_align_upto(1073741824),
                "arena": no_integer_in(0, 8), "heap": no_integer_in(1, 6), "zone": no_integer_in(1, 2),
                "urgent": NO_FLAGS}, named=("align", "arena", "heap", "zone", "urgent"))


class RandomTest(StoreBase):
    def test_against_the_plain_model(self):
        refusals, parts = {}, {}
        for seed in range(16):
            rng = random.Random(seed)
            self.make(
                count=rng.choice((30, 44)), width=rng.choice((16, 16, 32)), fill=rng.choice((0, 7)),
                zones=rng.choice((((16, 0, 0),), ((9, 0, 0), (9, 1, 1)))), lot=rng.choice((1, 2, 3)),
                spare=rng.choice((0, 1, 2)), arena=rng.choice((1, 2)), limit=rng.choice((1, 2)),
                heap=rng.choice((1, 2)))
            for _ in range(90):
                told = self.step(rng)
                if is_refusal(told):
                    refusals[told[0]] = refusals.get(told[0], 0) + 1
                    if told[0] == "NoRoom":
                        parts[told[1][0][0]] = parts.get(told[1][0][0], 0) + 1
            self.finish()
        self.assertEqual(sorted(refusals), ["NoRoom", "NotHeld", "Unknown"])
        self.assertEqual(sorted(parts), ["drawers", "extents", "heaps"])
        self.assertGreater(min([*refusals.values(), *parts.values()]), 10, (refusals, parts))

    def step(self, rng):
        """Makes one random call."""
        width = self.ground.width
        rows = self.store.handed()
        row = rng.choice(rows) if rows else (rng.randrange(self.ground.top), 1, 1, None)
        start = row[0] if rng.random() < 0.95 else rng.randrange(self.ground.top)
        user = row[2] if rng.random() < 0.9 else rng.randint(1, 3)
        sizes = (1, 2, 3, 5, width // 2, width // 2 + 1, width, width, width + 3, 2 * width, 3 * width, 5 * width)
        name = rng.choice(["take"] * 6 + ["give_back"] * 3 + ["resize"] * 4 + ["pass_to", "settle", "tick", "write"])
        if name == "take":
            size, align = rng.choice(sizes), rng.choice((1, 1, 1, 2, 8, width, 2 * width))
            urgent = rng.random() < 0.2
            told = self.play(name, size, rng.randint(1, 3), align=align, urgent=urgent)
            if is_refusal(told) and told[0] == "NoRoom":
                copy = ground_of(self.ground.image())
                self.maker(copy).settle()
                orders = {key: self.named[key] for key in ("arena", "heap")}
                self.assertIs(
                    is_no_room(copy.image(), told[1][0], size, align=align, urgent=urgent, **orders), True)
            return told
        if name in ("settle", "tick"):
            return self.play(name)
        if name == "write":
            if rows:
                self.number(row[:2], rng.randrange(60000))
            return None
        rest = {"resize": (rng.choice(sizes),), "pass_to": (rng.randint(1, 3),)}.get(name, ())
        return self.play(name, start, user, *rest)

    def test_deeds(self):
        self.make()
        spans = [self.store.take(size, 1) for size in (3, 16, 40)]
        before = state(self.ground)
        self.ground.begin()
        for span in spans:
            self.store.resize(span[0], 1, 9)
        self.assertEqual(told_by(self.store.take, GREATEST, 1), ("Unknown", ("size",)))
        self.assertEqual(told_by(self.store.give_back, 0, 1), ("Unknown", ("start",)))
        for start, _, _, _ in self.store.handed():
            self.store.pass_to(start, 1, 2)
            self.store.give_back(start, 2)
        self.store.settle()
        self.assertEqual([self.ground.depth, self.ground.image()], [1, self.new])
        self.ground.cancel()
        self.assertEqual(state(self.ground), before)

    def test_budget(self):
        self.make()
        spans = [self.store.take(size, 1) for size in (3, 16, 40)]
        extent = self.store.take(120, 1)
        self.store.give_back(extent[0], 1)
        before = self.ground.image()
        calls = [("take", 3, 2), ("take", 20, 2), ("take", 50, 2), ("settle",), ("tick",)]
        for span in spans:
            calls += [("give_back", span[0], 1), ("pass_to", span[0], 1, 2), ("resize", span[0], 1, 60)]
        for name, *values in calls:
            copy = ground_of(before)
            outcome(getattr(self.maker(copy), name), *values)
            cost = copy.spent
            self.assertGreater(cost, 0, name)
            self.ground.budget = cost - 1
            self.assertEqual(told_by(getattr(self.store, name), *values), ("Cut", (cost, cost - 1)))
            self.assertEqual([self.ground.image(), self.ground.budget, self.ground.depth], [before, cost - 1, 0])

    def test_resize_that_changes_nothing_costs_nothing(self):
        self.make()
        for size in (3, 40):
            span = self.store.take(size, 1)
            self.ground.budget = 0
            self.assertEqual(self.store.resize(span[0], 1, size), span)
            self.ground.budget = None

    def test_equal_stores_over_one_ground(self):
        self.make()
        other = self.maker(self.ground)
        span = self.store.take(20, 1)
        self.assertEqual(other.resize(span[0], 1, 40)[1], 48)
        copy = self.maker(ground_of(self.ground.image()))
        self.assertEqual(copy.handed(), self.store.handed())
        self.assertEqual(copy.take(3, 2), other.take(3, 2))

    def test_lists_are_new(self):
        self.make()
        for size in (3, 16, 40):
            self.store.take(size, 1)
        for call in (self.store.handed, self.store.heap_beds, self.store.tick):
            before = call()
            call().append(0)
            self.assertEqual(call(), before)

    def test_without_delay(self):
        ground = Ground(256, 64)
        store = Store(start_buddies(ground, ((150, 0, 0), (80, 0, 1))), zone=2)
        new = ground.image()
        started = time.monotonic()
        rng = random.Random(4)
        for _ in range(400):
            told_by(store.take, rng.choice((1, 8, 30, 64, 100, 300)), rng.randint(1, 8))
        while told_by(store.take, 500, 1) is None:
            pass
        for _ in range(20):
            told_by(store.take, 512, 1)
        for start, _, holder, _ in store.handed():
            store.give_back(start, holder)
        store.settle()
        self.assertEqual(ground.image(), new)
        self.assertLess(time.monotonic() - started, 20)


if __name__ == "__main__":
    unittest.main()
