"""Points 40 to 44 and the interface of heaps.py."""

import random
import unittest

from allgivenback.buddies import Buddies, start_buddies
from allgivenback.extents import Extents
from allgivenback.ground import Ground, ground_of
from allgivenback.heaps import Heap, start_heap
from allgivenback.marks import first_broken_mark, is_no_piece, pieces_in
from tests.bed_models import PlainHeap, plain_broken
from tests.helpers import NO_INTEGERS, check_wrong, is_refusal, no_align_upto, no_integer_in, play, state, told_by
from tests.test_buddies import NO_GROUNDS
from tests.test_drawers import NO_USERS

NO_FITS = ("last", "", "First", "first ", b"first", ("first",), ["next"]) + tuple(
    value for value in NO_INTEGERS if not isinstance(value, str))


class Base(unittest.TestCase):
    def make(self, size, start=0, fill=0, pages=4, width=16):
        """Makes a ground with a heap, and its plain model."""
        self.ground = Ground(pages, width, fill=fill)
        self.ground.pass_on(start, size, 0, 24)
        self.blank = self.ground.image()
        self.heap = start_heap(self.ground, start, size)
        self.maker = lambda ground: Heap(ground, start, size)
        self.plain = PlainHeap(self.blank, start, size)
        self.assertEqual(self.ground.image(), self.plain.image())
        self.new = self.ground.image()

    def play(self, *values, **named):
        told = play(self, self.maker, self.ground, self.plain, *values, **named)
        for name in ("pieces", "rover", "handed", "is_empty"):
            self.assertEqual(getattr(self.maker(self.ground), name)(), getattr(self.plain, name)())
        self.assertIsNone(plain_broken(self.ground.image(), self.plain.start, self.plain.size))
        return told

    def write(self, place, word):
        holder = self.ground.holder_at(place)
        self.ground.write(place, word, holder)
        self.plain.payload[place] = (word, holder)


class StartTest(unittest.TestCase):
    def test_example(self):
        ground = Ground(2, 16)
        ground.pass_on(0, 20, 0, 24)
        heap = start_heap(ground, 0, 20)
        self.assertEqual(heap.take(3, 1, align=8), (8, 3))
        self.assertEqual(heap.pieces(), [(2, 5, False), (7, 5, True), (12, 8, False)])

    def test_new_heap(self):
        for pages, width, start, size, fill in (
                (1, 16, 0, 5, 0), (1, 16, 11, 5, 9), (2, 16, 3, 20, 7), (256, 64, 0, 16384, 65535), (256, 64, 9, 9999, 0)):
            ground = Ground(pages, width, fill=fill)
            ground.pass_on(start, size, 0, 24)
            before = ground.spent
            heap = start_heap(ground, start, size)
            self.assertIs(type(heap), Heap)
            words = [fill] * (pages * width)
            words[start], words[start + 1] = size, start + 2
            words[start + 2] = words[start + size - 1] = 2 * (size - 2)
            self.assertEqual(ground.image()[2], tuple(words))
            self.assertEqual(ground.held_by(24).spans, [(start, size)])
            self.assertEqual(heap.pieces(), [(start + 2, size - 2, False)])
            self.assertEqual([heap.rover(), heap.handed(), heap.is_empty()], [start + 2, [], True])
            self.assertEqual([ground.spent - before, ground.depth], [4, 0])

    def test_refused_beds(self):
        ground = Ground(2, 16, fill=9)
        ground.pass_on(3, 20, 0, 24)
        before = state(ground)
        for start, size, due in (
                (2, 20, ("NotHeld", (2, 0))), (3, 21, ("NotHeld", (23, 0))), (0, 32, ("NotHeld", (0, 0))),
                (24, 5, ("NotHeld", (24, 0)))):
            self.assertEqual(told_by(start_heap, ground, start, size), due)
        self.assertEqual(state(ground), before)
        ground.poke(20, 1)
        ground.poke(12, 2)
        ground.poke(1, 8)
        before = state(ground)
        # A broken word of the keeper comes before places that it does not hold; other holders' words do not matter.
        self.assertEqual(told_by(start_heap, ground, 3, 20), ("Broken", (12, 2, 9)))
        self.assertEqual(told_by(start_heap, ground, 0, 32), ("Broken", (12, 2, 9)))
        self.assertEqual(told_by(start_heap, ground, 13, 19), ("Broken", (20, 1, 9)))
        self.assertEqual(told_by(start_heap, ground, 0, 8), ("NotHeld", (0, 0)))
        self.assertEqual(state(ground), before)
        ground.poke(12, 9)
        ground.poke(20, 9)
        ground.pass_on(10, 1, 24, 25)
        self.assertEqual(told_by(start_heap, ground, 3, 20), ("NotHeld", (10, 25)))
        self.assertEqual(start_heap(ground, 3, 7).pieces(), [(5, 5, False)])
        self.assertEqual(told_by(start_heap, ground, 3, 7), ("Broken", (3, 7, 9)))

    def test_wrong(self):
        ground = Ground(2, 16)
        before = state(ground)
        for start in (0, 3):
            check_wrong(self, start_heap, {"ground": ground, "start": start, "size": 20}, {
                "ground": NO_GROUNDS, "start": no_integer_in(0, 31), "size": no_integer_in(5, 32 - start)})
            check_wrong(self, Heap, {"ground": ground, "start": start, "size": 20}, {
                "ground": NO_GROUNDS, "start": no_integer_in(0, 31), "size": no_integer_in(5, 32 - start)})
        self.assertEqual(told_by(start_heap, ground, 28, 5), ("BadValue", ("size",)))
        # A view checks nothing else.
        self.assertIsNone(told_by(Heap, ground, 27, 5))
        self.assertEqual(state(ground), before)

    def test_cut_and_deeds(self):
        ground = Ground(2, 16)
        ground.pass_on(0, 20, 0, 24)
        ground.budget = 3
        before = state(ground)
        self.assertEqual(told_by(start_heap, ground, 0, 20), ("Cut", (4, 3)))
        self.assertEqual(state(ground), before)
        ground.begin()
        start_heap(ground, 0, 20).take(1, 1)
        ground.cancel()
        self.assertEqual(state(ground), before)


class TakeTest(Base):
    def test_fits(self):
        self.make(39)
        spans = [self.play("take", size, 1) for size in (6, 1, 3, 1, 4, 1)]
        for at in (0, 2, 4):
            self.play("give_back", spans[at][0], 1)
        self.assertEqual([n for _, n, used in self.plain.list if not used], [8, 5, 6, 9])
        self.assertEqual(self.play("rover"), 2)
        for fit, due in (("first", spans[0]), ("best", spans[2])):
            copy = ground_of(self.ground.image())
            self.assertEqual(self.maker(copy).take(3, 2, fit=fit)[0], due[0])
        self.assertEqual(self.play("take", 3, 2, fit="next"), (3, 3))
        self.assertEqual(self.play("rover"), 7)
        self.assertEqual(self.play("take", 3, 2, fit="next")[0], spans[2][0])
        self.assertEqual(self.play("take", 7, 2, fit="next")[1], 7)
        # The used piece is the last one, so the rover is at the first piece now.
        self.assertEqual(self.play("rover"), 2)
        self.assertEqual(self.play("take", 1, 2, fit="next"), (8, 1))
        self.assertEqual(self.play("take", 9, 2, fit="next"), (
            "NoRoom", (("heap", tuple(self.plain.free())),)))

    def test_rest_of_less_than_three(self):
        for size in range(1, 11):
            self.make(12)
            due = (3, size) if size <= 5 else (3, 8) if size <= 8 else ("NoRoom", (("heap", ((2, 10),)),))
            self.assertEqual(self.play("take", size, 3), due)

    def test_alignment(self):
        for start in range(0, 9):
            for align in (1, 2, 4, 8, 16, 32):
                self.make(40, start=start)
                for size in (1, 3, 2):
                    told = self.play("take", size, 1, align=align)
                    if not is_refusal(told):
                        self.assertEqual(told[0] % align, 0)

    def test_greatest_alignment(self):
        ground = Ground(256, 64)
        ground.pass_on(0, 16384, 0, 24)
        heap = start_heap(ground, 0, 16384)
        self.assertEqual(heap.take(1, 1, align=4096), (4096, 1))
        self.assertEqual(heap.take(4000, 1, align=4096), (8192, 4000))
        self.assertEqual(heap.take(4094, 1, align=4096), (12288, 4095))
        self.assertEqual(told_by(heap.take, 1, 1, align=4096), ("NoRoom", (("heap", heap_free(heap)),)))
        self.assertEqual(told_by(heap.take, 16384, 1)[0], "NoRoom")
        self.assertIs(is_no_piece(ground.image(), 0, 16384, ("heap", heap_free(heap)), 1, align=4096), True)

    def test_best_of_several(self):
        self.make(60)
        spans = [self.play("take", size, 1) for size in (5, 1, 3, 1, 3, 1)]
        for at in (0, 2, 4):
            self.play("give_back", spans[at][0], 1)
        self.assertEqual(self.play("take", 2, 2, fit="best")[0], spans[2][0])
        self.assertEqual(self.play("take", 2, 2, fit="best")[0], spans[4][0])
        self.assertEqual(self.play("take", 2, 2, fit="best")[0], spans[0][0])

    def test_smallest_bed(self):
        self.make(5)
        self.assertEqual(self.play("take", 2, 1), ("NoRoom", (("heap", ((2, 3),)),)))
        self.assertEqual(self.play("take", 1, 8, fit="next"), (3, 1))
        self.assertEqual(self.play("take", 1, 8), ("NoRoom", (("heap", ()),)))
        self.assertEqual(self.play("rover"), 2)
        self.assertEqual(self.play("resize", 3, 8, 1), (3, 1))
        self.assertEqual(self.play("resize", 3, 8, 2), ("NoRoom", (("heap", ()),)))
        self.assertEqual(self.play("give_back", 3, 8), (3, 1))
        self.assertEqual(self.ground.image(), self.new)

    def test_wrong(self):
        self.make(40)
        start = self.heap.take(3, 1)[0]
        before = state(self.ground)
        bad = {
            "start": no_integer_in(0, 63), "size": no_integer_in(1, 16384), "holder": NO_USERS,
            "align": no_align_upto(4096), "fit": NO_FITS}
        for size in (1, 16384):
            good = {"size": size, "holder": 1, "align": 1, "fit": "first"}
            check_wrong(self, self.heap.take, good, bad, named=("align", "fit"))
            for place, holder in ((start, 1), (start, 2), (0, 1)):
                good = {"start": place, "holder": holder, "size": size, "align": 1}
                check_wrong(self, self.heap.resize, good, bad, named=("align",))
                check_wrong(self, self.heap.give_back, {"start": place, "holder": holder}, bad)
        # Wrong arguments come before broken marks.
        self.ground.poke(0, 1)
        self.assertEqual(told_by(self.heap.take, 0, 1), ("BadValue", ("size",)))
        self.assertEqual(told_by(self.heap.take, 1, 1, fit=1), ("BadValue", ("fit",)))
        self.assertEqual(told_by(self.heap.give_back, 3, 11), ("BadValue", ("holder",)))
        self.assertEqual(told_by(self.heap.resize, 3, 1, 1, align=3), ("BadValue", ("align",)))
        self.ground.poke(0, 40)
        self.assertEqual(state(self.ground)[0], before[0])


def heap_free(heap):
    """The free pieces of a heap as a paper lists them."""
    return tuple((p, n) for p, n, used in heap.pieces() if not used)


class GiveBackTest(Base):
    def setUp(self):
        self.make(50, start=7, fill=9)
        self.spans = [self.play("take", size, user) for size, user in ((3, 1), (2, 2), (1, 3), (4, 4), (2, 5))]

    def test_join_with_none_one_and_two(self):
        for span in self.spans:
            for place in range(span[0], sum(span)):
                self.write(place, place)
        counts = [len(self.plain.list)]
        for at, user in ((1, 2), (3, 4), (2, 3), (0, 1), (4, 5)):
            self.assertEqual(self.play("give_back", self.spans[at][0], user), self.spans[at])
            counts.append(len(self.plain.list))
        self.assertEqual(counts, [6, 6, 6, 4, 3, 1])
        self.assertEqual(self.ground.image(), self.new)
        self.assertIs(self.heap.is_empty(), True)

    def test_every_order(self):
        rng = random.Random(43)
        for _ in range(30):
            order = list(enumerate(self.spans, start=1))
            rng.shuffle(order)
            for user, span in order:
                self.play("give_back", span[0], user)
            self.assertEqual(self.ground.image(), self.new)
            self.spans = [self.play("take", span[1], user) for user, span in enumerate(self.spans, start=1)]

    def test_rover(self):
        second = self.spans[1][0] - 1
        third = self.spans[2][0] - 1
        self.ground.poke(8, third)
        self.plain.first = third
        self.play("give_back", self.spans[1][0], 2)
        self.assertEqual(self.play("rover"), third)
        self.play("give_back", self.spans[2][0], 3)
        self.assertEqual(self.play("rover"), second)
        self.play("give_back", self.spans[0][0], 1)
        self.assertEqual(self.play("rover"), 9)

    def test_unknown_and_not_held(self):
        starts = [span[0] for span in self.spans]
        before = state(self.ground)
        for place in range(self.ground.top):
            if place not in starts:
                self.assertEqual(told_by(self.heap.give_back, place, 1), ("Unknown", ("start",)))
                self.assertEqual(told_by(self.heap.resize, place, 1, 1), ("Unknown", ("start",)))
        self.assertEqual(state(self.ground), before)
        start = starts[3]
        self.assertEqual(self.play("give_back", start, 5), ("NotHeld", (start, 4)))
        self.assertEqual(self.play("resize", start, 5, 4), ("NotHeld", (start, 4)))
        self.ground.pass_on(start + 2, 2, 4, 5)
        for place in (start + 2, start + 3):
            self.plain.payload[place] = (9, 5)
        for name, values in (("give_back", ()), ("resize", (1,)), ("resize", (4,)), ("resize", (100,))):
            self.assertEqual(self.play(name, start, 4, *values), ("NotHeld", (start + 2, 5)))
            self.assertEqual(self.play(name, start, 5, *values), ("NotHeld", (start, 4)))
        self.assertIn((start, 4, 4), self.play("handed"))
        self.play("give_back", starts[2], 3)
        self.assertEqual(self.play("give_back", starts[2], 3), ("Unknown", ("start",)))
        self.assertEqual(told_by(self.ground.write, starts[2], 1, 3), ("NotHeld", (starts[2], 24)))


class ResizeTest(Base):
    def test_all_sizes(self):
        for align in (1, 2, 4):
            for size in range(1, 24):
                self.make(34, start=3, fill=9)
                spans = [self.play("take", count, 1) for count in (4, 6, 2)]
                for place in range(spans[1][0], sum(spans[1])):
                    self.write(place, 100 + place)
                self.play("give_back", spans[2][0], 1)
                self.play("resize", spans[1][0], 1, size, align=align)
                self.play("give_back", self.plain.handed()[1][0], 1)

    def test_in_place_between_used_pieces(self):
        for size in range(1, 12):
            self.make(40, fill=9)
            spans = [self.play("take", count, count) for count in (2, 8, 3)]
            for place in range(spans[1][0], sum(spans[1])):
                self.write(place, 100 + place)
            told = self.play("resize", spans[1][0], 8, size)
            self.assertEqual(told[1], size if size <= 5 else 8 if size <= 8 else size)
            words = [self.ground.read(place, 8) for place in range(told[0], told[0] + min(size, 8))]
            self.assertEqual(words, [100 + spans[1][0] + k for k in range(min(size, 8))])

    def test_elsewhere(self):
        self.make(40, fill=9)
        first = self.play("take", 4, 1)
        self.play("take", 1, 2)
        for place in range(first[0], sum(first)):
            self.write(place, place)
        second = self.play("resize", first[0], 1, 6)
        self.assertNotEqual(second[0], first[0])
        self.assertEqual([self.ground.read(second[0] + k, 1) for k in range(6)], [3, 4, 5, 6, 9, 9])
        # A smaller size goes elsewhere if the start is not aligned.
        third = self.play("resize", second[0], 1, 2, align=16)
        self.assertEqual([third[0] % 16, self.ground.read(third[0], 1)], [0, 3])
        self.assertEqual(self.play("resize", third[0], 1, 30)[0], "NoRoom")
        self.assertEqual(self.play("resize", third[0], 1, 16384)[0], "NoRoom")

    def test_rover(self):
        self.make(40)
        first = self.play("take", 4, 1, fit="next")
        self.assertEqual(self.play("rover"), 8)
        self.play("resize", first[0], 1, 6)
        self.assertEqual(self.play("rover"), 2)
        self.ground.poke(1, 10)
        self.plain.first = 10
        self.play("resize", first[0], 1, 2)
        self.assertEqual(self.play("rover"), 6)

    def test_left_out(self):
        self.make(40)
        first = self.play("take", 3, 1)
        self.assertEqual(first, (3, 3))
        self.assertEqual(self.heap.resize(3, 1, 5), (3, 5))


class BrokenTest(Base):
    CALLS = (
        ("take", (1, 1)), ("take", (16384, 1)), ("give_back", (3, 1)), ("give_back", (0, 2)), ("resize", (3, 1, 2)),
        ("resize", (0, 1, 2)), ("pieces", ()), ("rover", ()), ("handed", ()), ("is_empty", ()))

    def test_every_method(self):
        self.make(30)
        spans = [self.heap.take(size, 1) for size in (2, 3, 1)]
        self.heap.give_back(spans[1][0], 1)
        broken = 0
        for place in range(30):
            found = self.ground.word_at(place)
            for word in (0, 7, 8, 9, 30, 65535):
                self.ground.poke(place, word)
                before = state(self.ground)
                due = plain_broken(before[0], 0, 30)
                self.assertEqual(first_broken_mark(before[0], 0, 30), due)
                if due is not None:
                    for name, values in self.CALLS:
                        self.assertEqual(told_by(getattr(self.heap, name), *values), ("Broken", due))
                    self.assertEqual(told_by(pieces_in, before[0], 0, 30), ("Broken", due))
                    broken += 1
                self.assertEqual(state(self.ground), before)
            self.ground.poke(place, found)
        self.assertGreater(broken, 80)

    def test_goes_on_from_another_rover(self):
        self.make(40)
        spans = [self.play("take", 2, 1) for _ in range(4)]
        for at in (0, 2):
            self.play("give_back", spans[at][0], 1)
        for at in range(4):
            self.ground.poke(1, spans[at][0] - 1)
            self.plain.first = spans[at][0] - 1
            self.play("rover")
            self.play("give_back", self.play("take", 2, 1, fit="next")[0], 1)


class BedTest(unittest.TestCase):
    def use(self, ground, start, size):
        """Uses a heap in a bed in every way and gives all back."""
        outside = [cell for at, cell in enumerate(zip(*ground.image()[2:])) if not start <= at < start + size]
        heap = start_heap(ground, start, size)
        new = ground.image()
        rng = random.Random(size)
        held = {}
        for _ in range(60):
            if held and rng.random() < 0.4:
                at = rng.choice(sorted(held))
                heap.give_back(at, held.pop(at))
            else:
                user = rng.randint(1, 8)
                try:
                    span = heap.take(rng.randint(1, 9), user, fit=rng.choice(("first", "next", "best")))
                except ValueError as error:
                    self.assertEqual(error.told[0], "NoRoom")
                    continue
                self.assertTrue(start + 2 < span[0] and sum(span) < start + size)
                held[span[0]] = user
        self.assertEqual([row[0] for row in heap.handed()], sorted(held))
        for at, user in held.items():
            heap.give_back(at, user)
        rest = ground.image()
        self.assertEqual([rest[2][start + 1], new[2][start + 1]], [start + 2, start + 2])
        self.assertEqual(rest, new)
        self.assertEqual([cell for at, cell in enumerate(zip(*rest[2:])) if not start <= at < start + size], outside)

    def empty(self, ground, start, size):
        """Clears the words of a heap, which is all its keeper's."""
        for place in range(start, start + size):
            ground.write(place, ground.fill, 24)

    def test_block(self):
        ground = Ground(40, 16)
        buddies = start_buddies(ground, [(26, 0, 0)])
        before = ground.image()
        start, size = buddies.take(3, 300, 24)
        self.use(ground, start, size)
        buddies.give_back(start, 24)
        self.assertEqual(ground.image(), before)

    def test_part_of_a_block(self):
        ground = Ground(40, 16, fill=7)
        buddies = start_buddies(ground, [(26, 0, 0)])
        before = ground.image()
        start, size = buddies.take(3, 300, 24)
        self.use(ground, start + 5, 50)
        self.use(ground, start + 55, size - 55)
        self.use(ground, start, 5)
        buddies.give_back(start, 24)
        self.assertEqual(ground.image(), before)

    def test_extent(self):
        ground = Ground(40, 16)
        buddies = start_buddies(ground, [(26, 0, 0)])
        before = ground.image()
        extents = Extents(buddies, 200, order=2)
        start, size = extents.take(3, 5)
        ground.pass_on(start, size, 5, 24)
        self.use(ground, start, size)
        self.assertEqual(extents.handed(), [(start, size, 24)])
        ground.pass_on(start, size, 24, 5)
        extents.give_back(start, 5)
        extents.shrink()
        self.assertEqual(ground.image(), before)

    def test_two_heaps(self):
        ground = Ground(4, 16)
        ground.pass_on(0, 64, 0, 24)
        first = start_heap(ground, 3, 20)
        second = start_heap(ground, 23, 30)
        one, other = ground.image(), first.pieces()
        second.take(9, 2)
        second.take(3, 2)
        self.assertEqual(first.pieces(), other)
        self.assertEqual(ground.image()[2][:23], one[2][:23])
        first.take(5, 1)
        self.assertEqual([len(first.handed()), len(second.handed())], [1, 2])
        ground.poke(3, 0)
        self.assertEqual(len(second.handed()), 2)
        self.assertEqual(told_by(first.handed), ("Broken", (3, 0, 20)))

    def test_many_beds(self):
        for start, size, pages in ((0, 48, 3), (1, 40, 4), (63, 33, 6), (5, 59, 4)):
            ground = Ground(pages, 16, fill=3)
            ground.pass_on(start, size, 0, 24)
            self.use(ground, start, size)


class RandomTest(Base):
    def test_against_the_plain_model(self):
        refusals, joined = {}, 0
        for seed in range(14):
            rng = random.Random(seed)
            self.make(rng.choice((20, 33, 48, 60)), start=rng.randrange(4), fill=rng.choice((0, 7, 65535)))
            self.sizes = rng.choice(((1, 2, 3), (1, 4, 9), (2, 30), (6, 7, 8)))
            for _ in range(130):
                told = self.step(rng)
                if is_refusal(told):
                    refusals[told[0]] = refusals.get(told[0], 0) + 1
            for start, size, holder in self.plain.handed():
                for place in range(start, start + size):
                    self.ground.pass_on(place, 1, self.ground.holder_at(place), holder)
                    self.plain.payload[place] = (self.plain.payload[place][0], holder)
                self.play("give_back", start, holder)
            joined += 1
            self.assertEqual(self.ground.image(), self.new)
        self.assertEqual(sorted(refusals), ["NoRoom", "NotHeld", "Unknown"])
        self.assertGreater(min(refusals.values()), 15, refusals)

    def step(self, rng):
        """Makes one random call, and now and then a write or a passing on."""
        name, values, named = self.call(rng)
        told = self.play(name, *values, **named)
        if is_refusal(told) and told[0] == "NoRoom":
            wanted = values[0] if name == "take" else values[2]
            self.assertIs(is_no_piece(
                self.ground.image(), self.plain.start, self.plain.size, told[1][0], wanted,
                align=named["align"]), True)
        places = sorted(self.plain.payload)
        if places and rng.random() < 0.5:
            self.write(rng.choice(places), rng.randrange(65536))
        if places and rng.random() < 0.06:
            place, taker = rng.choice(places), rng.randint(1, 8)
            self.ground.pass_on(place, 1, self.ground.holder_at(place), taker)
            self.plain.payload[place] = (self.plain.payload[place][0], taker)
        return told

    def call(self, rng):
        """A random call as its name, its arguments and those by name."""
        choice = rng.random()
        size, align = rng.choice(self.sizes), rng.choice((1, 1, 1, 2, 4, 8))
        handed = self.plain.handed()
        if choice < 0.45 or not handed:
            return ("take", (size, rng.randint(1, 3)), {"align": align, "fit": rng.choice(("first", "next", "best"))})
        start, _, holder = rng.choice(handed)
        holder = holder if rng.random() < 0.95 else rng.randint(1, 8)
        start = start + (rng.random() < 0.03)
        if choice < 0.7:
            return ("give_back", (start, holder), {})
        return ("resize", (start, holder, size), {"align": align})

    def test_greatest_bed(self):
        ground = Ground(256, 64)
        ground.pass_on(0, 16384, 0, 24)
        heap = start_heap(ground, 0, 16384)
        new = ground.image()
        rng = random.Random(44)
        held = {}
        for _ in range(250):
            span = heap.take(rng.randint(1, 90), 1, fit=rng.choice(("first", "next", "best")), align=rng.choice((1, 64)))
            held[span[0]] = span[1]
        for start in list(held)[::2]:
            held.pop(start)
            span = heap.resize(start, 1, rng.randint(1, 99))
            held[span[0]] = span[1]
        self.assertEqual({start: size for start, size, _ in heap.handed()}, held)
        for start in held:
            heap.give_back(start, 1)
        self.assertEqual(ground.image(), new)

    def test_as_many_pieces_as_can_be(self):
        words = (16384, 2) + (7, 0, 7) * 5459 + (11, 0, 0, 0, 11)
        holders = (24, 24) + (24, 1, 24) * 5459 + (24, 1, 1, 1, 24)
        ground = ground_of((64, 0, words, holders))
        heap = Heap(ground, 0, 16384)
        self.assertEqual(len(heap.handed()), 5460)
        for start in range(3, 303, 6):
            heap.give_back(start, 1)
        self.assertEqual(heap.take(1, 2, fit="best"), (3, 1))
        self.assertEqual(told_by(heap.take, 2, 2)[0], "NoRoom")


class DeedTest(Base):
    def test_inside_a_deed(self):
        self.make(40)
        span = self.heap.take(4, 1)
        before = state(self.ground)
        self.ground.begin()
        self.heap.take(3, 2, fit="next")
        self.heap.resize(span[0], 1, 9)
        self.assertEqual(told_by(self.heap.give_back, span[0], 1), ("Unknown", ("start",)))
        self.assertEqual(told_by(self.heap.resize, self.heap.handed()[-1][0], 1, 99)[0], "NoRoom")
        self.assertEqual(self.ground.depth, 1)
        self.heap.give_back(self.heap.handed()[-1][0], 1)
        self.ground.cancel()
        self.assertEqual(state(self.ground), before)

    def test_cut(self):
        self.make(20)
        self.ground.budget = 5
        before = state(self.ground)
        # The three places of the payload and four marks, of which three stay on free places.
        self.assertEqual(told_by(self.heap.take, 3, 1), ("Cut", (7, 5)))
        self.assertEqual(state(self.ground), before)
        self.ground.budget = 7
        self.heap.take(3, 1)
        self.assertEqual(self.ground.budget, 0)
        before = state(self.ground)
        self.assertEqual(told_by(self.heap.give_back, 3, 1), ("Cut", (7, 0)))
        self.assertEqual(told_by(self.heap.resize, 3, 1, 4)[0], "Cut")
        self.assertIsNone(told_by(self.heap.resize, 3, 1, 3))
        self.assertEqual(state(self.ground), before)

    def test_equal_heaps_over_one_bed(self):
        self.make(40)
        other = Heap(self.ground, 0, 40)
        span = self.heap.take(4, 1)
        self.assertEqual(other.handed(), [(*span, 1)])
        other.give_back(span[0], 1)
        self.assertIs(self.heap.is_empty(), True)

    def test_map_is_no_matter(self):
        ground = Ground(24, 16)
        buddies = start_buddies(ground, [(16, 0, 0)])
        start, size = buddies.take(1, 300, 24)
        start_heap(ground, start, size).take(3, 1)
        self.assertEqual(Buddies(ground_of(ground.image())).given(300), [(start // 16, 1, 300)])
        self.assertEqual(Heap(ground_of(ground.image()), start, size).handed(), [(start + 3, 3, 1)])


del Base

if __name__ == "__main__":
    unittest.main()
