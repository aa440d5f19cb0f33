"""Points 36 to 39 and the interface of extents.py."""

import itertools
import random
import unittest

from allgivenback.buddies import Buddies, start_buddies
from allgivenback.extents import Extents, is_no_extent
from allgivenback.ground import Ground, ground_of
from allgivenback.places import Places
from tests.helpers import NO_INTEGERS, ODD_VALUES, bendings, check_wrong, is_refusal, no_align_upto, no_integer_in
from tests.helpers import outcome, play, state, told_by
from tests.models import PlainExtents, PlainMap
from tests.test_buddies import NO_FLAGS
from tests.test_drawers import NO_USERS
from tests.test_layout import NO_MAPS
from tests.test_slabs import NO_BUDDIES

NO_FITS = ("next", "", "Best", "best ", b"best", ("best",), ["first"]) + tuple(
    value for value in NO_INTEGERS if not isinstance(value, str))


def make_extents(pages=40, width=16, fill=0, zones=((26, 0, 0),), label=200, **named):
    """A function that makes extents over a ground, a ground with a map and the plain model of the extents."""
    ground = Ground(pages, width, fill=fill)
    start_buddies(ground, zones)
    return (lambda each: Extents(Buddies(each), label, **named)), ground, PlainExtents(
        PlainMap(pages, width, fill, zones), label, **named)


class Base(unittest.TestCase):
    def make(self, **named):
        self.maker, self.ground, self.plain = make_extents(**named)
        self.start = self.ground.image()

    def play(self, *values, **named):
        told = play(self, self.maker, self.ground, self.plain, *values, **named)
        for name in ("arenas", "ages", "handed", "first_broken"):
            self.assertEqual(getattr(self.maker(self.ground), name)(), getattr(self.plain, name)())
        return told

    def poke(self, place, word):
        self.ground.poke(place, word)
        self.plain.buddies.poke(place, word)

    def pages(self, span):
        """The first page and the number of pages of a span."""
        width = self.ground.width
        self.assertEqual([span[0] % width, span[1] % width], [0, 0])
        return (span[0] // width, span[1] // width)


class TakeTest(Base):
    def test_new_arena(self):
        self.make(order=2, fill=9)
        span = self.play("take", 3, 5)
        first = self.pages(span)[0]
        self.assertEqual(span, (first * 16, 48))
        self.assertEqual(self.play("arenas"), [first])
        self.assertEqual([first % 4, self.play("ages")], [0, [(first + 3, 0)]])
        self.assertEqual([self.ground.holder_at(first * 16 + k) for k in (0, 47, 48, 63)], [5, 5, 23, 23])
        buddies = Buddies(self.ground)
        self.assertEqual([buddies.note_at(first + k) for k in range(4)], [(3, 0), (0, 0), (0, 0), (0, 0)])
        self.assertEqual(self.play("handed"), [(*span, 5)])
        self.assertEqual(self.maker(self.ground).runs(), Places([(first + 3, 1)]))
        self.assertIs(type(self.maker(self.ground).runs()), Places)

    def test_first_and_best_fit(self):
        self.make(order=3)
        spans = [self.play("take", count, 1) for count in (3, 1, 2, 2)]
        first = self.pages(spans[0])[0]
        self.play("give_back", spans[0][0], 1)
        self.play("give_back", spans[2][0], 1)
        self.assertEqual(self.maker(self.ground).runs().spans, [(first, 3), (first + 4, 2)])
        second = ground_of(self.ground.image())
        self.assertEqual(self.maker(second).take(2, 2, fit="first"), (first * 16, 32))
        self.assertEqual(self.maker(second).take(1, 2), ((first + 2) * 16, 16))
        self.assertEqual(self.play("take", 2, 2, fit="best"), ((first + 4) * 16, 32))
        self.assertEqual(self.play("take", 2, 2, align=2), (first * 16, 32))

    def test_over_the_border_of_two_arenas(self):
        self.make(order=1)
        spans = [self.play("take", 1, 1) for _ in range(24)]
        arenas = self.play("arenas")
        low = next(page for page in arenas if page + 2 in arenas)
        for page in (low + 1, low + 2):
            self.play("give_back", page * 16, 1)
        self.assertEqual(self.play("take", 2, 3), ((low + 1) * 16, 32))
        self.assertEqual(len(spans), 24)
        self.assertEqual(self.play("split_at", (low + 1) * 16, 3, 1), (((low + 1) * 16, 16), ((low + 2) * 16, 16)))

    def test_over_the_border_of_two_zones(self):
        self.make(zones=((7, 0, 0), (7, 0, 1)), order=0, zone=2)
        for _ in range(14):
            self.play("take", 1, 1)
        border = self.plain.buddies.zones[1][0]
        self.play("join_next", (border - 1) * 16, 1)
        self.assertIn(((border - 1) * 16, 32, 1), self.play("handed"))
        self.play("give_back", (border - 1) * 16, 1)
        self.assertEqual(self.maker(self.ground).runs().spans, [(border - 1, 2)])

    def test_alignment(self):
        self.make(pages=48, zones=((34, 0, 0),), order=3)
        for align in (1, 2, 4, 8):
            span = self.play("take", 1, 1, align=align)
            self.assertEqual(self.pages(span)[0] % align, 0)
        self.assertEqual(self.pages(self.play("take", 8, 2, align=8))[0] % 8, 0)

    def test_broken(self):
        self.make(order=2)
        first = self.pages(self.play("take", 1, 1))[0]
        self.poke((first + 2) * 16 + 7, 5)
        self.poke((first + 3) * 16, 6)
        place = (first + 2) * 16 + 7
        self.assertEqual(self.play("take", 3, 1), ("Broken", (place, 5, 0)))
        self.assertEqual(self.play("take", 2, 1, align=2), ("Broken", (place, 5, 0)))
        self.assertEqual(self.play("first_broken"), (place, 5, 0))
        self.assertFalse(is_refusal(self.play("take", 1, 1)))
        self.poke(place, 0)
        self.assertEqual(self.play("take", 2, 1, align=2), ("Broken", ((first + 3) * 16, 6, 0)))
        # A word of a page that is handed out does not matter, and it is mended when the page is given back.
        self.poke((first + 3) * 16, 0)
        span = self.play("take", 2, 1)
        self.poke(span[0] + 3, 8)
        self.assertIsNone(self.play("first_broken"))
        self.play("give_back", span[0], 1)
        self.assertIsNone(self.play("first_broken"))

    def test_refusals_of_the_buddies_come_first(self):
        # The zone has two arenas; the second one cannot be taken, or its block is broken.
        self.make(pages=16, zones=((11, 0, 0),), order=2)
        first = self.pages(self.play("take", 1, 1))[0]
        self.poke((first + 1) * 16, 5)
        free = [block for block in Buddies(self.ground).walk() if block[2] == 0 and block[1] == 2]
        self.assertEqual(len(free), 1)
        other = free[0][0]
        self.poke(other * 16 + 9, 4)
        self.assertEqual(self.play("take", 4, 1), ("Broken", (other * 16 + 9, 4, 0)))
        self.assertEqual(self.play("take", 3, 1), ("Broken", ((first + 1) * 16, 5, 0)))
        self.poke(other * 16 + 9, 0)
        self.assertEqual(self.play("take", 4, 1), ("Broken", ((first + 1) * 16, 5, 0)))
        self.poke((first + 1) * 16, 0)
        self.assertFalse(is_refusal(self.play("take", 4, 1)))
        self.assertEqual(self.play("take", 4, 1)[0], "NoRoom")

    def test_edges_and_wrong(self):
        self.make(zones=((20, 0, 0), (6, 0, 1)), order=3)
        extents = self.maker(self.ground)
        before = state(self.ground)
        for pages in (1, 8):
            check_wrong(
                self, extents.take,
                {"pages": pages, "holder": 1, "align": 8, "fit": "best", "urgent": False},
                {"pages": no_integer_in(1, 8), "holder": NO_USERS, "align": no_align_upto(8), "fit": NO_FITS,
                 "urgent": NO_FLAGS}, named=("align", "fit", "urgent"))
        good = {"buddies": Buddies(self.ground), "label": 1, "order": 8, "limit": 0, "zone": 1}
        check_wrong(self, Extents, good, {
            "buddies": NO_BUDDIES, "label": no_integer_in(1, 999), "order": no_integer_in(0, 8),
            "limit": no_integer_in(0, 1000), "zone": no_integer_in(1, 2)}, named=("order", "limit", "zone"))
        self.assertEqual(state(self.ground), before)
        for order in range(9):
            extents = Extents(Buddies(self.ground), 999, order=order, limit=1000, zone=2)
            self.assertEqual(told_by(extents.take, 2 ** order + 1, 1), ("BadValue", ("pages",)))
            self.assertEqual(told_by(extents.take, 1, 1, align=2 ** (order + 1)), ("BadValue", ("align",)))
            told = outcome(extents.take, 2 ** order, 8, align=2 ** order)
            self.assertEqual(is_refusal(told), order >= 4)
            if order < 4:
                extents.give_back(told[0], 8)
                extents.shrink()
        self.assertEqual(state(self.ground)[0], before[0])

    def test_left_out(self):
        ground = Ground(48, 16)
        extents = Extents(start_buddies(ground, [(34, 0, 0), (1, 0, 1)]), 200)
        start = ground.image()
        span = extents.take(1, 1)
        self.assertEqual([span[0] // 16 % 8, len(extents.ages())], [0, 7])
        # All arguments are also looked at where no new arena is needed.
        check_wrong(
            self, extents.take, {"pages": 1, "holder": 1, "align": 1, "fit": "best", "urgent": False},
            {"fit": NO_FITS, "urgent": NO_FLAGS}, named=("align", "fit", "urgent"))
        spans = [extents.take(2, 1), extents.take(1, 1), extents.take(1, 1), extents.take(2, 1), extents.take(1, 1)]
        extents.give_back(spans[0][0], 1)
        extents.give_back(spans[2][0], 1)
        self.assertEqual(extents.take(1, 1), spans[2])
        for row in extents.handed():
            extents.give_back(row[0], 1)
        for _ in range(3):
            self.assertEqual(extents.tick(), [])
        self.assertEqual(extents.tick(), [span[0] // 16])
        self.assertEqual(ground.image(), start)
        for _ in range(3):
            extents.take(8, 1)
        told = outcome(extents.take, 8, 1)
        self.assertEqual([told[0], told[1][0][3][0][:2]], ["NoRoom", (1, "held")])
        self.assertEqual(told[1][0][2], ((16, 40, (23, 31, 39)),))
        paper = ("extents", 200, ((16, 40, (23, 31, 39)),), told[1][0][3])
        self.assertIs(is_no_extent(ground.image(), paper, 8), True)
        # Of the windows of eight pages, this cover misses only the one from page 23 on.
        paper = ("extents", 200, ((16, 40, (22, 31, 39)),), told[1][0][3])
        self.assertIs(is_no_extent(ground.image(), paper, 8), False)
        self.assertIs(is_no_extent(ground.image(), paper, 8, align=2), True)

    def test_kept_pages(self):
        ground = Ground(48, 16)
        buddies = start_buddies(ground, [(34, 30, 0)])
        extents = Extents(buddies, 200)
        told = outcome(extents.take, 8, 1)
        self.assertEqual(told, ("NoRoom", (("extents", 200, (), ((1, "few", 34),)),)))
        self.assertIs(is_no_extent(ground.image(), told[1][0], 8), True)
        self.assertIs(is_no_extent(ground.image(), told[1][0], 8, urgent=True), False)

    def test_zone_and_urgent(self):
        self.make(zones=((3, 0, 0), (4, 2, 1)), order=0, zone=2)
        spans = [self.play("take", 1, 1) for _ in range(5)]
        told = self.play("take", 1, 1)
        self.assertEqual([told[0], told[1][0][3]], ["NoRoom", ((2, "few", 2), (1, "few", 0))])
        self.assertFalse(is_refusal(self.play("take", 1, 1, urgent=True)))
        self.assertEqual(len(spans), 5)


class ChangeTest(Base):
    def setUp(self):
        self.make(order=3, fill=9)
        self.spans = [self.play("take", count, user) for count, user in ((2, 1), (3, 1), (1, 2), (2, 1))]
        self.first = self.pages(self.spans[0])[0]

    def write(self, place, word, holder):
        self.ground.write(place, word, holder)
        self.plain.buddies.cells[place][0] = word

    def test_give_back(self):
        start, size = self.spans[1]
        for place in range(start, start + size):
            self.write(place, place, 1)
        self.assertEqual(self.play("give_back", start, 1), (start, size))
        self.assertEqual(self.ground.image()[2][start:start + size], (9,) * size)
        self.assertEqual(self.ground.image()[3][start:start + size], (23,) * size)
        self.assertEqual(self.play("give_back", start, 1), ("Unknown", ("start",)))
        for span, user in ((self.spans[0], 1), (self.spans[2], 2), (self.spans[3], 1)):
            self.play("give_back", span[0], user)
        self.assertEqual(self.play("shrink"), [self.first])
        self.assertEqual(self.ground.image(), self.start)

    def test_unknown_and_not_held(self):
        starts = [span[0] for span in self.spans]
        for place in range(self.ground.top):
            for name, values in (("give_back", ()), ("split_at", (1,)), ("join_next", ())):
                if place not in starts:
                    self.assertEqual(told_by(getattr(self.maker(self.ground), name), place, 1, *values), (
                        "Unknown", ("start",)))
        start, size = self.spans[1]
        self.assertEqual(self.play("give_back", start, 2), ("NotHeld", (start, 1)))
        self.assertEqual(self.play("split_at", start, 2, 2), ("NotHeld", (start, 1)))
        self.assertEqual(self.play("split_at", start, 2, 3), ("Unknown", ("count",)))
        self.assertEqual(self.play("split_at", start, 1, 3), ("Unknown", ("count",)))
        self.assertEqual(self.play("split_at", start, 1, 256), ("Unknown", ("count",)))
        self.assertEqual(self.play("split_at", start + 1, 1, 256), ("Unknown", ("start",)))
        self.assertEqual(self.play("join_next", start, 1), ("NotHeld", (self.spans[2][0], 2)))
        self.assertEqual(self.play("join_next", self.spans[2][0], 1), ("NotHeld", (self.spans[2][0], 2)))
        self.assertEqual(self.play("join_next", self.spans[3][0], 1), ("Unknown", ("start",)))
        self.play("give_back", self.spans[2][0], 2)
        self.assertEqual(self.play("join_next", start, 1), ("Unknown", ("start",)))
        self.ground.pass_on(start + size - 1, 1, 1, 3)
        self.plain.buddies.pass_on(start + size - 1, 1, 3)
        for name, values in (("give_back", ()), ("split_at", (1,))):
            self.assertEqual(self.play(name, start, 1, *values), ("NotHeld", (start + size - 1, 3)))
            self.assertEqual(self.play(name, start, 3, *values), ("NotHeld", (start, 1)))
        self.assertEqual(self.play("join_next", self.spans[0][0], 1), ("NotHeld", (start + size - 1, 3)))

    def test_split_and_join(self):
        start, size = self.spans[1]
        self.write(start + 20, 77, 1)
        self.assertEqual(self.play("split_at", start, 1, 1), ((start, 16), (start + 16, 32)))
        buddies = Buddies(self.ground)
        self.assertEqual([buddies.note_at(start // 16 + k) for k in range(3)], [(1, 0), (2, 0), (0, 0)])
        self.assertEqual(self.ground.read(start + 20, 1), 77)
        self.assertEqual(self.play("join_next", self.spans[0][0], 1), (self.spans[0][0], 48))
        self.assertEqual(self.play("join_next", self.spans[0][0], 1), (self.spans[0][0], 80))
        self.assertEqual([buddies.note_at(self.first + k) for k in range(5)], [(5, 0)] + [(0, 0)] * 4)
        self.assertEqual(self.ground.read(start + 20, 1), 77)
        self.assertEqual(self.play("give_back", self.spans[0][0], 1), (self.spans[0][0], 80))

    def test_more_pages_than_an_arena(self):
        self.make(pages=256, zones=((180, 0, 0),), order=4)
        count = 0
        while not is_refusal(outcome(self.maker(self.ground).take, 16, 1)):
            count += 1
        extents = self.maker(self.ground)
        first = extents.handed()[0][0]
        joined = 1
        while not is_refusal(outcome(extents.join_next, first, 1)):
            joined += 1
        self.assertGreater(joined, 8)
        self.assertEqual(extents.handed()[0], (first, joined * 256, 1))
        self.assertEqual(extents.split_at(first, 1, joined * 16 - 1)[1][1], 16)
        for start, _, _ in extents.handed():
            extents.give_back(start, 1)
        self.assertEqual(len(extents.shrink()), count)
        self.assertEqual(self.ground.image(), self.start)

    def test_wrong(self):
        extents = self.maker(self.ground)
        before = state(self.ground)
        bad = {"start": no_integer_in(0, self.ground.top - 1), "holder": NO_USERS, "count": no_integer_in(1, 256)}
        for start, holder in ((self.spans[0][0], 2), (0, 1)):
            for name in ("give_back", "join_next"):
                check_wrong(self, getattr(extents, name), {"start": start, "holder": holder}, bad)
            check_wrong(self, extents.split_at, {"start": start, "holder": holder, "count": 256}, bad)
        self.assertEqual(state(self.ground), before)

    def test_lists_are_new(self):
        extents = self.maker(self.ground)
        self.play("give_back", self.spans[0][0], 1)
        for name in ("arenas", "ages", "handed"):
            count = len(getattr(extents, name)())
            getattr(extents, name)().clear()
            self.assertEqual(len(getattr(extents, name)()), count)
            self.assertGreater(count, 0)

    def test_each_broken_place(self):
        self.play("give_back", self.spans[1][0], 1)
        for place in range(self.first * 16, (self.first + 8) * 16):
            found = self.ground.word_at(place)
            self.ground.poke(place, 8)
            free = self.spans[1][0] <= place < sum(self.spans[1])
            self.assertEqual(self.maker(self.ground).first_broken(), (place, 8, 9) if free else None)
            self.ground.poke(place, found)


class AgeTest(Base):
    def test_tick(self):
        self.make(order=1, limit=3)
        first = self.play("take", 1, 1)
        page = self.pages(first)[0]
        other = page ^ 1
        self.assertEqual(self.play("tick"), [])
        self.assertEqual(self.play("ages"), [(other, 1)])
        second = self.play("take", 2, 1, align=2)
        self.play("give_back", second[0], 1)
        self.assertEqual(self.play("tick"), [])
        self.play("give_back", first[0], 1)
        self.assertEqual(self.play("tick"), [])
        self.assertEqual(dict(self.play("ages"))[page], 1)
        self.assertEqual(self.play("tick"), [second[0] // 16])
        self.assertEqual(self.play("tick"), [min(page, other)])
        self.assertEqual(self.ground.image(), self.start)
        self.assertEqual(self.play("tick"), [])

    def test_limit_0(self):
        self.make(order=1, limit=0)
        span = self.play("take", 1, 1)
        self.assertEqual(self.play("tick"), [])
        self.play("give_back", span[0], 1)
        self.assertEqual(len(self.play("tick")), 1)
        self.assertEqual(self.ground.image(), self.start)

    def test_limit_1000(self):
        self.make(order=1, limit=1000)
        extents = self.maker(self.ground)
        span = extents.take(1, 1)
        for _ in range(1003):
            self.assertEqual(extents.tick(), [])
        self.assertEqual(extents.ages(), [((span[0] // 16) ^ 1, 1000)])
        self.assertEqual(Buddies(self.ground).note_at((span[0] // 16) ^ 1), (0, 1000))
        extents.give_back(span[0], 1)
        for _ in range(999):
            self.assertEqual(extents.tick(), [])
        self.assertEqual(len(extents.tick()), 1)
        self.assertEqual(self.ground.image(), self.start)

    def test_shrink(self):
        self.make(order=1)
        spans = [self.play("take", 2, 1) for _ in range(4)]
        self.assertEqual(self.play("shrink"), [])
        for at in (3, 1):
            self.play("give_back", spans[at][0], 1)
        half = self.play("take", 1, 2)
        self.assertEqual(len(self.play("shrink")), 1)
        self.play("give_back", half[0], 2)
        self.assertEqual(len(self.play("shrink")), 1)
        # Damaged words of free pages are mended when the arena is given back.
        self.play("give_back", spans[0][0], 1)
        self.poke(spans[0][0] + 5, 7)
        self.assertEqual(self.play("shrink"), [spans[0][0] // 16])
        self.play("give_back", spans[2][0], 1)
        self.play("shrink")
        self.assertEqual(self.ground.image(), self.start)


class PaperTest(Base):
    def setUp(self):
        self.make(pages=48, zones=((14, 0, 0), (10, 1, 1)), order=2, zone=2)
        told = None
        while not is_refusal(told):
            told = self.play("take", 4, 1)
        starts = [span[0] for span in self.play("handed")]
        for start in starts[1:3]:
            self.play("split_at", start, 1, 1)
            self.play("give_back", start, 1)
            self.play("split_at", start + 16, 1, 1)
            self.play("give_back", start + 32, 1)
        self.paper = self.play("take", 3, 2, align=2)[1][0]
        self.image = self.ground.image()

    def test_bent_papers(self):
        self.assertGreater(len(self.paper[2]), 0)
        wrong = 0
        for paper in [self.paper] + bendings(self.paper):
            for pages, align, urgent in ((3, 2, False), (4, 1, False), (2, 1, False), (3, 2, True), (9, 1, False)):
                due = self.plain.is_paper(paper, pages, align, 2, urgent)
                told = is_no_extent(self.image, paper, pages, align=align, order=2, zone=2, urgent=urgent)
                self.assertIs(told, due, (paper, pages, align))
                wrong += not due
        self.assertGreater(wrong, 100)
        self.assertIs(is_no_extent(self.image, self.paper, 3, align=2, order=2, zone=2), True)
        self.assertIs(is_no_extent(self.image, self.paper, 3, align=2, order=3, zone=2), False)
        self.assertIs(is_no_extent(self.image, self.paper, 3, align=2, order=2, zone=1), False)

    def test_any_right_cover(self):
        _, label, rows, inner = self.paper
        low, high, _ = rows[0]
        held = [page for page in range(low, high) if page not in self.plain.free]
        right = 0
        for size in range(len(held) + 1):
            for cover in itertools.combinations(held, size):
                paper = ("extents", label, ((low, high, cover),) + rows[1:], inner)
                for pages, align in ((3, 2), (1, 1), (2, 2), (17, 1), (256, 256)):
                    due = self.plain.is_paper(paper, pages, align, 2, False)
                    told = is_no_extent(self.image, paper, pages, align=align, order=2, zone=2)
                    self.assertIs(told, due)
                    right += due
        self.assertGreater(right, 3)

    def test_other_labels(self):
        inner = self.paper[3]
        for label in (1, 999):
            self.assertIs(is_no_extent(self.image, ("extents", label, (), inner), 3, order=2, zone=2), True)
        for label in (0, 1000, 200):
            self.assertIs(is_no_extent(self.image, ("extents", label, (), inner), 3, order=2, zone=2), False)

    def test_greater_numbers_than_an_arena(self):
        rows = tuple((low, high, ()) for low, high, _ in self.paper[2])
        paper = ("extents", 200, rows, self.paper[3])
        for pages in (200, 256):
            self.assertIs(is_no_extent(self.image, paper, pages, align=256, order=2, zone=2), True)

    def test_any_value(self):
        for value in ODD_VALUES + (("extents",), ("extents", 200, (), ()), ("extents", 200, None, None), [*self.paper]):
            self.assertIs(is_no_extent(self.image, value, 3, order=2), False)

    def test_damaged_maps(self):
        rng = random.Random(39)
        for _ in range(150):
            ground = ground_of(self.image)
            for _ in range(3):
                ground.poke(rng.randrange(10, 10 + 48 * 4), rng.choice((0, 1, 5, 9, 21, 22, 25, 29, 200, 65535)))
            for order in (0, 2, 8):
                told = is_no_extent(ground.image(), self.paper, 3, order=order, zone=2)
                self.assertIn(told, (True, False))

    def test_wrong(self):
        good = {
            "image": self.image, "paper": self.paper, "pages": 3, "align": 2, "order": 2, "zone": 1, "urgent": False}
        bad = {
            "image": NO_MAPS, "pages": no_integer_in(1, 256), "align": no_align_upto(256),
            "order": no_integer_in(0, 8), "zone": no_integer_in(1, 2), "urgent": NO_FLAGS}
        for paper in (self.paper, None):
            check_wrong(self, is_no_extent, {**good, "paper": paper}, bad, named=("align", "order", "zone", "urgent"))


class DeedTest(Base):
    def test_inside_a_deed(self):
        self.make(order=2, limit=0)
        extents = self.maker(self.ground)
        span = extents.take(3, 1)
        before = state(self.ground)
        self.ground.begin()
        extents.split_at(span[0], 1, 1)
        extents.give_back(span[0], 1)
        self.assertEqual(told_by(extents.give_back, span[0], 1), ("Unknown", ("start",)))
        extents.join_next(extents.take(1, 1)[0], 1)
        extents.give_back(span[0], 1)
        self.assertEqual(extents.tick(), [span[0] // 16])
        self.assertEqual(self.ground.image(), self.start)
        self.ground.cancel()
        self.assertEqual(state(self.ground), before)

    def test_cut(self):
        self.make(order=2)
        self.ground.budget = 66
        extents = self.maker(self.ground)
        # The places of the arena, its code, its label and the note of the extent.
        self.assertEqual(told_by(extents.take, 3, 1), ("Cut", (67, 66)))
        self.assertEqual(self.ground.image(), self.start)
        self.ground.budget = 67
        span = extents.take(3, 1)
        before = state(self.ground)
        self.assertEqual(told_by(extents.split_at, span[0], 1, 1), ("Cut", (2, 0)))
        self.assertEqual(told_by(extents.give_back, span[0], 1), ("Cut", (49, 0)))
        self.assertEqual(told_by(extents.tick), ("Cut", (1, 0)))
        self.assertEqual(told_by(extents.take, 1, 1), ("Cut", (17, 0)))
        self.assertEqual(extents.shrink(), [])
        self.assertEqual(state(self.ground), before)
        self.ground.budget = 2
        extents.split_at(span[0], 1, 1)
        self.assertEqual(told_by(extents.join_next, span[0], 1), ("Cut", (2, 0)))


class RandomTest(Base):
    SHAPES = (
        dict(order=2, zones=((9, 0, 0), (12, 2, 1)), zone=2, limit=2), dict(order=0, zones=((10, 0, 0),), limit=1),
        dict(order=3, zones=((26, 3, 0),), fill=7, limit=4), dict(order=1, zones=((16, 0, 0),), width=32, limit=0),
        dict(order=4, zones=((32, 0, 0),), pages=48, width=64, fill=65535, limit=3))

    def test_against_the_plain_model(self):
        refusals = {}
        for seed, shape in enumerate(self.SHAPES * 2):
            rng = random.Random(seed)
            self.make(**shape)
            for _ in range(140):
                told = self.step(rng)
                if is_refusal(told):
                    refusals[told[0]] = refusals.get(told[0], 0) + 1
            self.all_back()
        self.assertEqual(sorted(refusals), ["Broken", "NoRoom", "NotHeld", "Unknown"])
        self.assertGreater(min(refusals.values()), 5, refusals)

    def step(self, rng):
        """Makes one random call, and now and then a poke."""
        name, values, named = self.call(rng)
        told = self.play(name, *values, **named)
        if is_refusal(told) and told[0] == "NoRoom":
            named.pop("fit")
            self.assertIs(is_no_extent(
                self.ground.image(), told[1][0], values[0], order=self.plain.order, zone=self.plain.zone, **named),
                True)
        self.assertEqual(self.maker(self.ground).runs(), Places([(page, 1) for page in self.plain.free]))
        if self.plain.free and rng.random() < 0.1:
            self.poke(rng.choice(sorted(self.plain.free)) * self.ground.width + rng.randrange(16), 3)
        elif rng.random() < 0.2:
            self.mend()
        return told

    def mend(self):
        """Puts all damaged words of free pages back."""
        while self.plain.first_broken():
            place, _, due = self.plain.first_broken()
            self.poke(place, due)

    def call(self, rng):
        """A random call as its name, its arguments and those by name."""
        choice = rng.random()
        most = 2 ** self.plain.order
        handed = self.plain.handed()
        if choice < 0.45 or not handed:
            named = {
                "align": rng.choice([align for align in (1, 1, 2, 4, 8, 16) if align <= most]),
                "fit": rng.choice(("first", "best")), "urgent": rng.random() < 0.3}
            return ("take", (rng.randint(1, most), rng.randint(1, 3)), named)
        if choice < 0.55:
            return (rng.choice(("tick", "tick", "tick", "shrink")), (), {})
        start, _, holder = rng.choice(handed)
        holder = holder if rng.random() < 0.9 else rng.randint(1, 8)
        start = start + (rng.random() < 0.05) * rng.choice((1, self.ground.width))
        start = min(start, self.ground.top - 1)
        if choice < 0.75:
            return ("give_back", (start, holder), {})
        if choice < 0.87:
            return ("split_at", (start, holder, rng.randint(1, most)), {})
        return ("join_next", (start, holder), {})

    def all_back(self):
        """Gives everything back and looks at the image."""
        for start, _, holder in self.plain.handed():
            self.play("give_back", start, holder)
        self.play("shrink")
        self.assertEqual(self.ground.image(), self.start)

    def test_greatest_ground(self):
        for width, pages in ((64, 239), (16, 180)):
            ground = Ground(256, width)
            start = start_buddies(ground, [(pages, 0, 0)]).ground.image()
            extents = Extents(Buddies(ground), 5, order=0, limit=2)
            spans = [extents.take(1, 1) for _ in range(pages)]
            self.assertEqual(told_by(extents.take, 1, 1)[0], "NoRoom")
            for span in spans:
                extents.give_back(span[0], 1)
            self.assertEqual(extents.tick(), [])
            self.assertEqual(len(extents.tick()), pages)
            self.assertEqual(ground.image(), start)


del Base

if __name__ == "__main__":
    unittest.main()
