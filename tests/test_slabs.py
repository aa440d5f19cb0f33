"""Points 26 to 31 and the interface of slabs.py."""

import random
import unittest

from allgivenback.buddies import Buddies, start_buddies
from allgivenback.ground import Ground, ground_of
from allgivenback.slabs import Cache, is_no_slot
from tests.helpers import HUGE, NO_INTEGERS, ODD_VALUES, bendings, check_wrong, is_refusal, no_align_upto
from tests.helpers import no_integer_in, outcome, play, state, told_by
from tests.models import PlainCache, PlainMap
from tests.test_buddies import NO_FLAGS
from tests.test_ground import NO_OWNERS
from tests.test_images import HOLDERS
from tests.test_layout import NO_MAPS

TAKERS = [*range(1, 9), *range(11, 19)]
NO_TAKERS = (0, -1, 9, 10, 19, 20, 21, 22, 28, HUGE, -HUGE) + NO_INTEGERS
NO_BUDDIES = NO_INTEGERS + (0, Ground(12, 16), Buddies)


def make_cache(pages=24, width=16, fill=0, zones=((16, 0, 0),), label=5, size=3, **named):
    """A function that makes a cache over a ground, a ground with a map and the plain model of the cache."""
    ground = Ground(pages, width, fill=fill)
    start_buddies(ground, zones)
    plain = PlainCache(PlainMap(pages, width, fill, zones), label, size, **named)
    return (lambda each: Cache(Buddies(each), label, size, **named)), ground, plain


class MakingTest(unittest.TestCase):
    def setUp(self):
        self.buddies = start_buddies(Ground(24, 16), [(8, 0, 0), (4, 0, 1)])

    def test_wrong(self):
        no_words = ((1, 2), (1, 2, 3, 4), [1, 2, 3], (1, 2, True), (1, 2, -1), (1, 2, 65536), (1, 2, None), (1, 2, 3.0))
        no_words += tuple(value for value in NO_INTEGERS if value is not None) + (0, HUGE)
        before = state(self.buddies.ground)
        for size in (3, 14):
            words = (7,) * size
            good = {
                "buddies": self.buddies, "label": 5, "size": size, "align": 1, "order": 0, "spare": 1, "zone": 1,
                "maker": words, "ender": words}
            bad = {
                "buddies": NO_BUDDIES, "label": no_integer_in(1, 999), "size": no_integer_in(1, 4096),
                "align": no_align_upto(16), "order": no_integer_in(0, 8), "spare": no_integer_in(0, 256),
                "zone": no_integer_in(1, 2), "maker": no_words + (words + (1,),), "ender": no_words + (words[1:],)}
            check_wrong(self, Cache, good, bad, named=("align", "order", "spare", "zone", "maker", "ender"))
        self.assertEqual(state(self.buddies.ground), before)

    def test_no_shape(self):
        make = lambda size, **named: told_by(Cache, self.buddies, 5, size, **named)
        self.assertEqual(make(15), ("BadValue", ("size",)))
        self.assertEqual(make(1, align=16), ("BadValue", ("size",)))
        self.assertEqual(make(4096, order=7), ("BadValue", ("size",)))
        self.assertIsNone(make(14))
        self.assertIsNone(make(15, order=1))
        # All other arguments are looked at before.
        self.assertEqual(make(15, align=3), ("BadValue", ("align",)))
        self.assertEqual(make(15, spare=257), ("BadValue", ("spare",)))
        self.assertEqual(make(15, maker=(1,) * 14), ("BadValue", ("maker",)))
        self.assertEqual(make(15, maker=(1,) * 15), ("BadValue", ("size",)))
        self.assertEqual(make(15, ender=(1,) * 16), ("BadValue", ("ender",)))

    def test_left_out(self):
        ground = self.buddies.ground
        cache, same = Cache(self.buddies, 5, 3), Cache(
            self.buddies, 5, 3, align=1, order=0, spare=1, zone=1, maker=None, ender=None)
        starts = [cache.take(1)[0] for _ in range(9)]
        page = starts[0] // 16
        self.assertEqual(starts[:3], [page * 16 + 1 + page % 4 + 4 * k for k in range(3)])
        self.assertEqual(same.starts_of(1), sorted(starts))
        for start in starts[:6]:
            cache.give_back(start, 1)
        self.assertEqual([taken for _, taken in same.slabs()], [0, 3])
        full = start_buddies(Ground(24, 16), [(1, 0, 0), (4, 0, 1)])
        paper = ("slots", 5, (), ((1, "few", 0),))
        full.take(0, 6, 22)
        self.assertEqual(told_by(Cache(full, 5, 15 - 1).take, 1), ("NoRoom", (paper,)))
        self.assertIs(is_no_slot(full.ground.image(), paper, 14), True)
        self.assertEqual(ground.depth, 0)

    def test_edges(self):
        ground = Ground(256, 64)
        buddies = start_buddies(ground, [(239, 0, 0)])
        start = ground.image()
        for width, label, size, align, order in ((64, 1, 1, 64, 1), (64, 999, 4096, 64, 7), (64, 7, 4095, 1, 7)):
            cache = Cache(buddies, label, size, align=align, order=order, spare=0)
            span = cache.take(8)
            self.assertEqual([span[1], span[0] % align], [size, 0])
            self.assertEqual(cache.handed(), [(*span, 8)])
            self.assertIsNone(cache.first_broken())
            self.assertEqual(cache.give_back(span[0], 8), span)
            self.assertEqual(ground.image(), start)
        self.assertIsNone(told_by(Cache, buddies, 1, 1, order=8, spare=256))

    def test_order_8_has_no_room(self):
        buddies = start_buddies(Ground(256, 16), [(180, 0, 0)])
        paper = ("slots", 3, (), ((1, "few", 180),))
        self.assertEqual(outcome(Cache(buddies, 3, 9, order=8).take, 1), ("NoRoom", (paper,)))
        self.assertIs(is_no_slot(buddies.ground.image(), paper, 9, order=8), True)


class TakeTest(unittest.TestCase):
    def test_first_slab(self):
        make, ground, plain = make_cache(maker=(1, 2, 3), ender=(7, 8, 9), align=2)
        cache = make(ground)
        self.assertEqual(play(self, make, ground, plain, "take", 1), (7 * 16 + 2 + 2, 3))
        self.assertEqual([ground.read(place, 1) for place in (116, 117, 118)], [1, 2, 3])
        # Page 7 has the colour 1 of 2; the red places hold 60001, the free slots the ender's words.
        words = ground.image()[2][112:128]
        red = 60001
        self.assertEqual(words, (red,) * 4 + (1, 2, 3, red, 7, 8, 9, red, 7, 8, 9, red))
        self.assertEqual(ground.image()[3][112:128], (22,) * 4 + (1, 1, 1) + (22,) * 9)
        self.assertEqual(cache.slabs(), [(7, 1)])
        self.assertEqual(cache.take(11), (120, 3))
        self.assertEqual([ground.read(place, 11) for place in (120, 121, 122)], [7, 8, 9])
        self.assertEqual([cache.starts_of(holder) for holder in (1, 11, 22, 2)], [[116], [120], [124], []])

    def test_lowest_partial_then_lowest_empty_then_new(self):
        make, ground, plain = make_cache(spare=9)
        starts = sorted([play(self, make, ground, plain, "take", 1)[0] for _ in range(9)])
        self.assertEqual(len({start // 16 for start in starts}), 3)
        for start in starts[:3] + [starts[7]]:
            play(self, make, ground, plain, "give_back", start, 1)
        self.assertEqual([taken for _, taken in make(ground).slabs()], [0, 3, 2])
        self.assertEqual(play(self, make, ground, plain, "take", 2)[0], starts[7])
        self.assertEqual(play(self, make, ground, plain, "take", 2)[0], starts[0])
        for start in starts[3:6]:
            play(self, make, ground, plain, "give_back", start, 1)
        play(self, make, ground, plain, "give_back", starts[0], 2)
        self.assertEqual([taken for _, taken in make(ground).slabs()], [0, 0, 3])
        self.assertEqual(play(self, make, ground, plain, "take", 2)[0], starts[0])

    def test_damaged_slot(self):
        make, ground, plain = make_cache()
        first = play(self, make, ground, plain, "take", 1)[0]
        second = first + 4
        for place, word in ((second + 2, 5), (second + 1, 6)):
            ground.poke(place, word)
            plain.buddies.poke(place, word)
        self.assertEqual(play(self, make, ground, plain, "take", 1), ("Broken", (second + 1, 6, 60002)))
        self.assertEqual(play(self, make, ground, plain, "first_broken"), (second + 1, 6, 60002))
        # A drawer gets the slot as it is, and a user does not get it from the drawer.
        self.assertEqual(play(self, make, ground, plain, "take", 12), (second, 3))
        self.assertEqual(ground.read(second + 1, 12), 6)
        self.assertEqual(play(self, make, ground, plain, "hand_over", second, 12, 1), (
            "Broken", (second + 1, 6, 60002)))
        self.assertEqual(play(self, make, ground, plain, "hand_over", second, 12, 13), (second, 3))
        self.assertEqual(play(self, make, ground, plain, "first_broken"), (second + 1, 6, 60002))
        play(self, make, ground, plain, "give_back", second, 13)
        self.assertIsNone(play(self, make, ground, plain, "first_broken"))

    def test_broken_block(self):
        make, ground, plain = make_cache()
        ground.poke(7 * 16 + 9, 4)
        plain.buddies.poke(7 * 16 + 9, 4)
        self.assertEqual(play(self, make, ground, plain, "take", 1), ("Broken", (121, 4, 0)))

    def test_zones_and_urgent(self):
        zones = ((2, 0, 0), (2, 1, 1))
        make, ground, plain = make_cache(zones=zones, zone=2, size=7)
        for urgent in (False, False, False, True):
            self.assertFalse(is_refusal(play(self, make, ground, plain, "take", 1, urgent=urgent)))
        pages = [page for page, _ in make(ground).slabs()]
        self.assertEqual(len(pages), 3 if make(ground).slabs()[0][1] > 1 else 4)
        told = None
        while not is_refusal(told):
            told = play(self, make, ground, plain, "take", 1)
        self.assertEqual(told[1][0][3][0][:2], (2, "few"))
        self.assertIs(is_no_slot(ground.image(), told[1][0], 7, zone=2), True)

    def test_wrong(self):
        make, ground, plain = make_cache()
        cache = make(ground)
        before = state(ground)
        check_wrong(self, cache.take, {"taker": 1, "urgent": False}, {
            "taker": NO_TAKERS, "urgent": NO_FLAGS}, named=("urgent",))
        start = cache.take(1)[0]
        before = state(ground)
        # The arguments are also looked at where no block is needed.
        check_wrong(self, cache.take, {"taker": 1, "urgent": False}, {
            "taker": NO_TAKERS, "urgent": NO_FLAGS}, named=("urgent",))
        no_starts = no_integer_in(0, 383)
        for good in (start, start + 1, 0, 383):
            check_wrong(self, cache.give_back, {"start": good, "giver": 2}, {"start": no_starts, "giver": NO_TAKERS})
            check_wrong(self, cache.hand_over, {"start": good, "giver": 2, "taker": 18}, {
                "start": no_starts, "giver": NO_TAKERS, "taker": NO_TAKERS})
        check_wrong(self, cache.starts_of, {"holder": 1}, {"holder": NO_OWNERS})
        check_wrong(self, cache.slot_at, {"place": 1}, {"place": no_starts})
        self.assertEqual(state(ground), before)
        for taker in TAKERS:
            self.assertEqual(outcome(cache.take, taker)[1], 3)


class GiveBackTest(unittest.TestCase):
    def setUp(self):
        self.make, self.ground, self.plain = make_cache(spare=1, fill=9)
        self.starts = sorted([self.play("take", 1)[0] for _ in range(9)])

    def play(self, *values):
        return play(self, self.make, self.ground, self.plain, *values)

    def poke(self, place, word):
        self.ground.poke(place, word)
        self.plain.buddies.poke(place, word)

    def test_spare(self):
        told = [len(self.plain.pages())]
        for start in self.starts:
            self.play("give_back", start, 1)
            told.append(len(self.plain.pages()))
        self.assertEqual(told, [3, 3, 3, 3, 3, 3, 2, 2, 2, 1])
        self.assertEqual(self.plain.pages(), [self.starts[0] // 16])
        self.assertEqual(self.play("shrink"), 1)
        self.assertEqual(self.ground.image(), self.plain.buddies.start)
        self.assertEqual(self.play("shrink"), 0)

    def test_highest_empty_slab_goes(self):
        for start in self.starts[6:]:
            self.play("give_back", start, 1)
        for start in self.starts[:3]:
            self.play("give_back", start, 1)
        self.assertEqual([page for page, _ in self.make(self.ground).slabs()], [
            self.starts[0] // 16, self.starts[3] // 16])

    def test_given_back_twice_and_used_after(self):
        start = self.starts[1]
        self.ground.write(start, 77, 1)
        self.plain.buddies.cells[start][0] = 77
        self.play("give_back", start, 1)
        self.assertEqual(self.play("give_back", start, 1), ("NotHeld", (start, 22)))
        self.assertEqual(told_by(self.ground.write, start, 5, 1), ("NotHeld", (start, 22)))
        self.poke(start, 5)
        self.assertEqual(self.play("take", 1), ("Broken", (start, 5, 60002)))
        self.assertEqual(self.play("first_broken"), (start, 5, 60002))
        self.poke(start, 60002)
        self.assertEqual(self.play("take", 3), (start, 3))
        self.assertEqual(self.ground.read(start, 3), 9)

    def test_overrun_on_either_side(self):
        first, second = self.starts[0], self.starts[1]
        page = first // 16
        for place in (first - 1, second - 1, page * 16):
            self.poke(place, 60002)
            self.assertEqual(self.play("give_back", first, 1), ("Broken", (place, 60002, 60001)))
            # Also if the giver does not hold the slot.
            self.assertEqual(self.play("give_back", first, 2), ("Broken", (place, 60002, 60001)))
            self.assertEqual(self.play("hand_over", first, 1, 11), ("Broken", (place, 60002, 60001)))
            self.assertEqual(self.play("hand_over", first, 4, 14), ("Broken", (place, 60002, 60001)))
            self.assertEqual(self.play("give_back", first, 11), ("NotHeld", (first, 1)))
            self.assertEqual(self.play("hand_over", first, 11, 2), ("NotHeld", (first, 1)))
            self.assertEqual(self.play("hand_over", first, 1, 2), (first, 3))
            self.assertEqual(self.play("hand_over", first, 2, 1), (first, 3))
            self.assertEqual(self.play("first_broken"), (place, 60002, 60001))
            self.poke(place, 60001)
        # The red places of another slot do not matter.
        last = self.starts[2] + 3
        self.poke(last, 1)
        self.assertEqual(self.play("give_back", first, 1), (first, 3))
        self.assertEqual(self.play("give_back", self.starts[2], 1), ("Broken", (last, 1, 60001)))
        # Two broken places: the lowest is told; the last slot reaches to the end of the slab.
        self.poke(last - 4, 2)
        self.assertEqual(self.play("give_back", self.starts[2], 1), ("Broken", (last - 4, 2, 60001)))

    def test_last_red_place_of_a_slab(self):
        last = (self.starts[2] // 16 + 1) * 16 - 1
        self.poke(last, 0)
        self.assertEqual(self.play("give_back", self.starts[2], 1), ("Broken", (last, 0, 60001)))
        self.assertEqual(self.play("give_back", self.starts[3], 1), (self.starts[3], 3))

    def test_places_passed_on_in_parts(self):
        start = self.starts[4]
        self.ground.pass_on(start + 1, 2, 1, 2)
        self.plain.buddies.pass_on(start + 1, 2, 2)
        self.assertEqual(self.play("give_back", start, 1), ("NotHeld", (start + 1, 2)))
        self.assertEqual(self.play("give_back", start, 2), ("NotHeld", (start, 1)))
        self.assertEqual(self.play("hand_over", start, 1, 11), ("NotHeld", (start + 1, 2)))
        self.assertEqual(self.play("hand_over", start, 1, 3), ("NotHeld", (start + 1, 2)))
        self.assertIn((start, 3, 1), self.play("handed"))

    def test_unknown(self):
        for place in [place for place in range(self.ground.top) if place not in self.starts]:
            self.assertEqual(told_by(self.make(self.ground).give_back, place, 1), ("Unknown", ("start",)))
        for name, values in (("give_back", (1,)), ("hand_over", (1, 11)), ("hand_over", (11, 1))):
            self.assertEqual(self.play(name, self.starts[0] + 1, *values), ("Unknown", ("start",)))

    def test_other_labels_and_blocks(self):
        other = Cache(Buddies(self.ground), 6, 3)
        self.assertEqual(told_by(other.give_back, self.starts[0], 1), ("Unknown", ("start",)))
        self.assertEqual([other.slabs(), other.handed(), other.first_broken(), other.shrink()], [[], [], None, 0])
        self.assertEqual([other.starts_of(1), other.slot_at(self.starts[0])], [[], None])
        # A cache of another order with the label has no slab.
        other = Cache(Buddies(self.ground), 5, 3, order=1)
        self.assertEqual([other.slabs(), other.starts_of(1)], [[], []])


class LookTest(unittest.TestCase):
    def test_every_place(self):
        make, ground, plain = make_cache(size=4, align=4, order=1, spare=256)
        for taker in (1, 12, 8, 18, 3):
            play(self, make, ground, plain, "take", taker)
        for place in range(ground.top):
            self.assertEqual(make(ground).slot_at(place), plain.slot_at(place))
        for holder in HOLDERS[1:]:
            self.assertEqual(make(ground).starts_of(holder), plain.starts_of(holder))
        self.assertEqual(make(ground).slabs(), plain.slabs())
        self.assertEqual(make(ground).handed(), plain.handed())

    def test_each_broken_place(self):
        make, ground, plain = make_cache(size=4, align=2, ender=(5, 6, 7, 8))
        for taker in (1, 12):
            play(self, make, ground, plain, "take", taker)
        told = {None: 0}
        for place in range(7 * 16, 8 * 16):
            found = ground.word_at(place)
            for word in (0, 60001, 5, 6):
                ground.poke(place, word)
                plain.buddies.poke(place, word)
                broken = make(ground).first_broken()
                self.assertEqual(broken, plain.first_broken())
                told[broken] = told.get(broken, 0) + 1
                ground.poke(place, found)
                plain.buddies.poke(place, found)
        self.assertGreater(len(told), 20)
        self.assertGreaterEqual(told[None], 16)

    def test_lists_are_new(self):
        make, ground, _ = make_cache()
        cache = make(ground)
        cache.take(1)
        for name, values in (("slabs", ()), ("handed", ()), ("starts_of", (1,))):
            getattr(cache, name)(*values).clear()
            self.assertEqual(len(getattr(cache, name)(*values)), 1)

    def test_colours(self):
        make, ground, plain = make_cache(size=9, align=1)
        for _ in range(8):
            play(self, make, ground, plain, "take", 1)
        offsets = [start % 16 for start in make(ground).starts_of(1)]
        pages = [page for page, _ in make(ground).slabs()]
        self.assertEqual([len(pages), offsets], [8, [1 + page % 6 for page in pages]])


class PaperTest(unittest.TestCase):
    def setUp(self):
        # Zone 1 is 9 to 13, zone 2 is 14 to 17; page 9 is held by another label.
        self.ground = Ground(28, 16)
        self.buddies = start_buddies(self.ground, [(5, 0, 0), (4, 3, 1)])
        self.plain = PlainMap(28, 16, 0, [(5, 0, 0), (4, 3, 1)])
        first = self.plain.zones[0][0]
        self.buddies.take(0, 77, 4)
        self.plain.take_block(0, 77, 4, 1, False)
        self.named = {"order": 0, "align": 2}
        self.cache = Cache(self.buddies, 1, 5, zone=2, **self.named)
        self.model = PlainCache(self.plain, 1, 5, zone=2, **self.named)
        told = None
        while not is_refusal(told):
            told = outcome(self.cache.take, 3)
            self.assertEqual(told, outcome(self.model.take, 3))
        self.paper = told[1][0]
        self.assertEqual(self.paper[:2], ("slots", 1))
        self.assertGreater(len(self.paper[2]), 2)
        self.assertGreater(first, 0)

    def judge(self, paper, **named):
        return is_no_slot(self.ground.image(), paper, 5, **{**self.named, "zone": 2, **named})

    def test_bent_papers(self):
        wrong = 0
        for paper in [self.paper] + bendings(self.paper):
            for urgent in (False, True):
                due = self.model.is_paper(paper, 2, urgent)
                self.assertIs(self.judge(paper, urgent=urgent), due, (paper, urgent))
                wrong += not due
        self.assertGreater(wrong, 100)
        self.assertIs(self.judge(self.paper), True)

    def test_other_arguments(self):
        for size, align, order, zone in ((5, 2, 0, 1), (5, 2, 0, 2), (5, 2, 1, 2), (4, 2, 0, 2), (1, 1, 0, 2)):
            model = PlainCache(self.plain, 1, size, align=align, order=order)
            for urgent in (False, True):
                self.assertIs(is_no_slot(
                    self.ground.image(), self.paper, size, align=align, order=order, zone=zone, urgent=urgent),
                    model.is_paper(self.paper, zone, urgent))
        # If the shape is None, no paper is right, but the other arguments are looked at first.
        self.assertIs(self.judge_size(15, zone=2), False)
        self.assertEqual(told_by(self.judge_size, 15, zone=3), ("BadValue", ("zone",)))
        self.assertEqual(told_by(self.judge_size, 15, urgent=1), ("BadValue", ("urgent",)))

    def judge_size(self, size, **named):
        return is_no_slot(self.ground.image(), self.paper, size, **named)

    def test_free_slot(self):
        start = self.cache.handed()[0][0]
        self.cache.hand_over(start, 3, 13)
        self.assertIs(self.judge(self.paper), True)
        self.cache.give_back(start, 13)
        self.assertIs(self.judge(self.paper), False)

    def test_label_without_slabs(self):
        # No given block has the label, and no page is free: the paper has no pages.
        inner = self.paper[3]
        self.assertIs(self.judge(("slots", 999, (), inner)), True)
        self.assertIs(self.judge(("slots", 77, tuple(self.plain.pages_of(77)), inner)), True)
        self.assertIs(self.judge(("slots", 77, (), inner)), False)
        self.assertIs(self.judge(("slots", 1000, (), inner)), False)
        self.assertIs(self.judge(("slots", 0, (), inner)), False)

    def test_block_of_another_order(self):
        for page in self.model.pages()[:2]:
            for start in [start for start in self.model.starts(page)]:
                self.cache.give_back(start, 3)
        self.cache.shrink()
        free = self.buddies.free_pages(1)
        self.assertEqual(free.total, 2)
        self.buddies.take(1, 1, 22, urgent=True)
        for start, holder in ((place, 22) for place in range(self.ground.top)):
            if self.ground.holder_at(start) == holder and self.buddies.block_at(start)[1] == 1:
                self.ground.pass_on(start, 1, 22, 3)
        pages = tuple(page for page, _, _ in self.buddies.given(1))
        self.assertIs(self.judge(("slots", 1, pages, self.paper[3])), False)

    def test_any_value(self):
        for value in ODD_VALUES + (("slots",), ("slots", 1, (), ()), ("slots", None, None, None), [*self.paper]):
            self.assertIs(self.judge(value), False)

    def test_damaged_maps(self):
        rng = random.Random(31)
        for _ in range(150):
            ground = ground_of(self.ground.image())
            for _ in range(3):
                ground.poke(rng.randrange(10, 10 + 28 * 4), rng.choice((0, 1, 5, 9, 21, 22, 25, 29, 65535)))
            for order in (0, 3, 8):
                self.assertIn(is_no_slot(ground.image(), self.paper, 5, align=2, order=order, zone=2), (True, False))

    def test_wrong(self):
        good = {
            "image": self.ground.image(), "paper": self.paper, "size": 5, "align": 2, "order": 0, "zone": 1,
            "urgent": False}
        bad = {
            "image": NO_MAPS, "size": no_integer_in(1, 4096), "align": no_align_upto(16),
            "order": no_integer_in(0, 8), "zone": no_integer_in(1, 2), "urgent": NO_FLAGS}
        for paper in (self.paper, None):
            check_wrong(self, is_no_slot, {**good, "paper": paper}, bad, named=("align", "order", "zone", "urgent"))


class DeedTest(unittest.TestCase):
    def test_inside_a_deed(self):
        make, ground, plain = make_cache()
        cache = make(ground)
        start = cache.take(1)[0]
        before = state(ground)
        self.assertEqual(ground.begin(), 1)
        cache.give_back(start, 1)
        cache.take(5)
        cache.take(15)
        cache.hand_over(start, 5, 6)
        self.assertEqual(told_by(cache.give_back, start, 5), ("NotHeld", (start, 6)))
        self.assertEqual(ground.depth, 1)
        ground.cancel()
        self.assertEqual(state(ground), before)

    def test_cut(self):
        make, ground, plain = make_cache(spare=0)
        ground.budget = 17
        # The whole page changes, and the code and the label.
        self.assertEqual(told_by(make(ground).take, 1), ("Cut", (18, 17)))
        self.assertEqual([ground.depth, ground.budget, ground.spent - 16 * 7], [0, 17, 0])
        ground.budget = 18
        start = make(ground).take(1)[0]
        self.assertEqual(ground.budget, 0)
        before = state(ground)
        self.assertEqual(told_by(make(ground).hand_over, start, 1, 2), ("Cut", (3, 0)))
        self.assertEqual(told_by(make(ground).give_back, start, 1), ("Cut", (18, 0)))
        self.assertIsNone(told_by(make(ground).hand_over, start, 1, 1))
        self.assertEqual(make(ground).shrink(), 0)
        self.assertEqual(state(ground), before)
        ground.budget = 18
        make(ground).give_back(start, 1)
        self.assertEqual(ground.budget, 0)


class RandomTest(unittest.TestCase):
    SHAPES = (
        dict(size=3, align=2, spare=1), dict(size=1, spare=0, zone=2), dict(size=9, order=1, spare=2, fill=9),
        dict(size=5, align=4, order=2, maker=(1, 2, 3, 4, 5), ender=(6, 7, 8, 9, 10), fill=65535),
        dict(size=14, width=32, align=2, spare=256, ender=(0,) * 14),
        dict(size=30, width=64, align=16, spare=1, zone=2, maker=(60001,) * 30))
    ZONES = ((6, 0, 0), (5, 2, 1))

    def test_against_the_plain_model(self):
        self.refusals = {}
        for seed, shape in enumerate(self.SHAPES * 2):
            rng = random.Random(seed)
            make, ground, plain = make_cache(pages=28, zones=self.ZONES, **shape)
            for _ in range(150):
                self.step(rng, make, ground, plain)
            self.all_back(make, ground, plain)
        self.assertEqual(sorted(self.refusals), ["Broken", "NoRoom", "NotHeld", "Unknown"])
        self.assertGreater(min(self.refusals.values()), 5, self.refusals)

    def step(self, rng, make, ground, plain):
        """Makes one random call, and now and then a poke or a passing on."""
        name, values, named = self.call(rng, plain)
        told = play(self, make, ground, plain, name, *values, **named)
        if is_refusal(told):
            self.refusals[told[0]] = self.refusals.get(told[0], 0) + 1
            if told[0] == "NoRoom":
                self.assertIs(is_no_slot(
                    ground.image(), told[1][0], plain.size, align=plain.align, order=plain.order, zone=plain.zone,
                    **named), True)
        for name in ("slabs", "handed", "first_broken"):
            self.assertEqual(getattr(make(ground), name)(), getattr(plain, name)())
        if rng.random() < 0.15:
            place = rng.choice(sorted(plain.buddies.cells) or [ground.top - 1])
            word = rng.choice((0, 60001, 60002, 7))
            ground.poke(place, word)
            plain.buddies.poke(place, word)
        elif rng.random() < 0.4:
            self.mend(ground, plain)
        held = [place for place, (_, holder) in plain.buddies.cells.items() if holder <= 8]
        if held and rng.random() < 0.1:
            place, taker = rng.choice(held), rng.randint(1, 8)
            ground.pass_on(place, 1, ground.holder_at(place), taker)
            plain.buddies.pass_on(place, 1, taker)

    def mend(self, ground, plain):
        """Puts all damaged words back."""
        while plain.first_broken():
            place, _, due = plain.first_broken()
            ground.poke(place, due)
            plain.buddies.poke(place, due)
        for place in list(plain.buddies.words):
            ground.poke(place, ground.fill)
            plain.buddies.poke(place, ground.fill)

    def call(self, rng, plain):
        """A random call as its name, its arguments and those by name."""
        choice = rng.random()
        if choice < 0.5:
            return ("take", (rng.choice(TAKERS),), {"urgent": rng.random() < 0.3})
        if choice < 0.52:
            return ("shrink", (), {})
        slots = plain.slots() or [(plain.buddies.pages * plain.buddies.width - 1, 1)]
        start, holder = rng.choice(slots)
        giver = holder if holder != 22 and rng.random() < 0.9 else rng.choice(TAKERS)
        start = start + (rng.random() < 0.05 and start + 1 < plain.buddies.pages * plain.buddies.width)
        if choice < 0.75:
            return ("give_back", (start, giver), {})
        return ("hand_over", (start, giver, rng.choice(TAKERS)), {})

    def all_back(self, make, ground, plain):
        """Gives everything back and looks at the image."""
        self.mend(ground, plain)
        cache = make(ground)
        for start, size, holder in plain.handed():
            for place in range(start, start + size):
                ground.pass_on(place, 1, ground.holder_at(place), holder)
            cache.give_back(start, holder)
        for drawer in range(11, 19):
            for start in cache.starts_of(drawer):
                cache.give_back(start, drawer)
        self.assertLessEqual(len(cache.slabs()), plain.spare)
        cache.shrink()
        self.assertEqual(ground.image(), plain.buddies.start)

    def test_two_caches_over_one_ground(self):
        rng = random.Random(8)
        ground = Ground(40, 16)
        start = start_buddies(ground, [(24, 0, 0)]).ground.image()
        first, second = Cache(Buddies(ground), 1, 3), Cache(Buddies(ground), 2, 7, order=1, align=4)
        held = []
        for _ in range(200):
            cache = rng.choice((first, second))
            if rng.random() < 0.55:
                told = outcome(cache.take, rng.randint(1, 8))
                if not is_refusal(told):
                    held.append((cache, told, ground.holder_at(told[0])))
                    words = {place for _, (at, size), _ in held for place in range(at, at + size)}
                    self.assertEqual(len(words), sum(size for _, (_, size), _ in held))
            elif held:
                cache, span, holder = held.pop(rng.randrange(len(held)))
                self.assertEqual(cache.give_back(span[0], holder), span)
        for cache, span, holder in held:
            cache.give_back(span[0], holder)
        first.shrink()
        second.shrink()
        self.assertEqual(ground.image(), start)

    def test_greatest_ground(self):
        ground = Ground(256, 64)
        buddies = start_buddies(ground, [(239, 0, 0)])
        start = ground.image()
        cache = Cache(buddies, 9, 1, align=1)
        taken = [cache.take(1)[0] for _ in range(2000)]
        self.assertEqual(len(set(taken)), 2000)
        for place in taken[:400]:
            cache.give_back(place, 1)
        self.assertEqual(len(cache.handed()), 1600)
        self.assertIsNone(cache.first_broken())
        for place in taken[400:]:
            cache.give_back(place, 1)
        cache.shrink()
        self.assertEqual(ground.image(), start)


if __name__ == "__main__":
    unittest.main()
