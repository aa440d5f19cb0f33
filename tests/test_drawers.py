"""Points 33 to 35 and the interface of drawers.py."""

import random
import unittest

from allgivenback.buddies import Buddies, start_buddies
from allgivenback.drawers import Drawers, is_no_drawer
from allgivenback.ground import Ground, ground_of
from tests.helpers import ODD_VALUES, bendings, check_wrong, is_refusal, no_align_upto, no_integer_in, outcome, play
from tests.helpers import state, told_by
from tests.models import PlainDrawers, PlainMap
from tests.test_buddies import NO_FLAGS
from tests.test_layout import NO_MAPS
from tests.test_slabs import NO_BUDDIES

NO_USERS = no_integer_in(1, 8) + (11, 18, 22)


def make_drawers(pages=28, width=16, fill=0, zones=((16, 0, 0),), **named):
    """A function that makes drawers over a ground, a ground with a map and the plain model of the drawers."""
    ground = Ground(pages, width, fill=fill)
    start_buddies(ground, zones)
    return (lambda each: Drawers(Buddies(each), **named)), ground, PlainDrawers(
        PlainMap(pages, width, fill, zones), **named)


class Base(unittest.TestCase):
    def make(self, **named):
        self.maker, self.ground, self.plain = make_drawers(**named)
        self.start = self.ground.image()

    def play(self, *values, **named):
        return play(self, self.maker, self.ground, self.plain, *values, **named)

    def poke(self, place, word):
        self.ground.poke(place, word)
        self.plain.buddies.poke(place, word)


class TakeTest(Base):
    def test_fill_and_serve(self):
        self.make(lot=3)
        span = self.play("take", 3, 2)
        self.assertEqual(span[1], 3)
        self.assertEqual(len(self.play("starts_in", 2, 2)), 2)
        rest = self.play("starts_in", 2, 2)
        self.assertEqual([self.play("take", 3, 2)[0], self.play("take", 3, 2)[0]], rest)
        self.assertEqual(self.play("starts_in", 2, 2), [])
        self.assertEqual(len(self.play("handed")), 3)
        self.play("take", 3, 2)
        self.assertEqual(len(self.play("starts_in", 2, 2)), 2)

    def test_classes(self):
        for width, count in ((16, 6), (32, 8), (64, 10)):
            self.make(pages=32, width=width, lot=1)
            sizes = [1, 2, 3, 4, 6, 8, 12, 16, 24, 32][:count]
            for number, size in enumerate(sizes):
                span = self.play("take", size, 1)
                self.assertEqual(span[1], size)
                self.assertEqual(Buddies(self.ground).block_at(span[0])[2], 100 + number)
                self.assertEqual(self.play("starts_in", 1, number), [])
            self.assertEqual(self.play("take", sizes[-1] + 1, 1), ("Unknown", ("size",)))
            self.assertEqual(self.play("take", 1000000000, 1), ("Unknown", ("size",)))
            self.assertEqual(self.play("take", 1, 1, align=8), ("Unknown", ("size",)))
            self.assertEqual(self.play("take", 1, 1, align=1073741824), ("Unknown", ("size",)))
            self.assertEqual(self.play("take", 3, 1, align=4)[1], 4)
            self.assertEqual(self.play("take", 1, 1, align=2)[1], 2)
            self.assertEqual(self.play("take", 5, 1)[1], 6)

    def test_example_of_the_sessions(self):
        ground = Ground(24, 16)
        drawers = Drawers(start_buddies(ground, [(16, 0, 0)]))
        self.assertEqual(drawers.take(5, 1), (326, 6))
        self.assertEqual([ground.read(place, 1) for place in range(326, 332)], [0] * 6)

    def test_steal(self):
        # One page for each class of width 16 is enough for slots of size 1: seven of them.
        self.make(zones=((1, 0, 0),), lot=2)
        spans = [self.play("take", 1, user) for user in (1, 2, 3)]
        self.assertEqual([len(self.play("starts_in", user, 0)) for user in (1, 2, 3, 4)], [1, 1, 1, 0])
        # All seven are used or in drawers but one: user 4 gets it and fills no further.
        last = self.play("take", 1, 4)
        self.assertFalse(is_refusal(last))
        lowest = self.play("starts_in", 1, 0)
        self.assertEqual(self.play("take", 1, 5), (lowest[0], 1))
        self.play("give_back", spans[2][0], 3)
        self.assertEqual(len(self.play("starts_in", 3, 0)), 2)
        self.assertEqual(self.play("take", 1, 6), (spans[2][0], 1))
        lowest = self.play("starts_in", 2, 0)
        self.assertEqual(self.play("take", 1, 6), (lowest[0], 1))
        self.assertEqual(self.play("take", 1, 3)[1], 1)
        told = self.play("take", 1, 8)
        self.assertEqual(told[0], "NoRoom")
        self.assertEqual(told[1][0], ("drawers", 0, ("slots", 100, (spans[0][0] // 16,), ((1, "few", 0),))))
        self.assertIs(is_no_drawer(self.ground.image(), told[1][0]), True)
        self.assertEqual(self.play("take", 2, 8)[1][0], ("drawers", 1, ("slots", 101, (), ((1, "few", 0),))))

    def test_broken_ends_all(self):
        self.make(lot=2)
        first = self.play("take", 3, 1)[0]
        waiting = self.play("starts_in", 1, 2)[0]
        self.poke(waiting + 1, 5)
        self.assertEqual(self.play("take", 3, 1), ("Broken", (waiting + 1, 5, 60002)))
        self.assertEqual(self.play("first_broken"), (waiting + 1, 5, 60002))
        # Another user's drawer is filled from the cache, which has a slot left and then takes a new slab.
        self.assertEqual(self.play("take", 3, 2)[1], 3)
        self.poke(waiting + 1, 60002)
        self.assertEqual(self.play("take", 3, 1), (waiting, 3))
        self.poke(first - 1, 5)
        self.assertEqual(self.play("give_back", first, 1), ("Broken", (first - 1, 5, 60001)))

    def test_broken_block_is_not_caught(self):
        self.make(lot=8)
        first = self.plain.buddies.zones[0][0] * 16
        self.play("take", 3, 1)
        for place in range(first, self.ground.top):
            if self.ground.holder_at(place) == 0:
                self.poke(place, 9)
        told = self.play("take", 1, 1)
        self.assertEqual([told[0], told[1][1:]], ["Broken", (9, 0)])

    def test_urgent_and_zone(self):
        self.make(zones=((3, 0, 0), (2, 2, 1)), zone=2, lot=1)
        for _ in range(9):
            self.assertFalse(is_refusal(self.play("take", 3, 1)))
        told = self.play("take", 3, 1)
        self.assertEqual([told[0], told[1][0][2][3]], ["NoRoom", ((2, "few", 2), (1, "few", 0))])
        self.assertIs(is_no_drawer(self.ground.image(), told[1][0], zone=2), True)
        self.assertIs(is_no_drawer(self.ground.image(), told[1][0], zone=2, urgent=True), False)
        self.assertEqual(self.play("take", 3, 1, urgent=True)[1], 3)

    def test_deeds(self):
        self.make()
        drawers = self.maker(self.ground)
        span = drawers.take(3, 1)
        before = state(self.ground)
        self.ground.begin()
        drawers.give_back(drawers.take(8, 2)[0], 2)
        drawers.give_back(span[0], 1)
        drawers.settle()
        self.assertEqual(self.ground.image(), self.start)
        self.ground.cancel()
        self.assertEqual(state(self.ground), before)
        self.ground.budget = 5
        # The first slot of the drawer is handed over; a new class needs a new slab.
        self.assertEqual(told_by(drawers.take, 1, 1), ("Cut", (18, 5)))
        self.assertEqual(drawers.take(3, 1)[1], 3)
        self.assertEqual(self.ground.budget, 2)
        self.assertEqual(told_by(drawers.give_back, span[0], 1), ("Cut", (3, 2)))
        self.assertEqual([self.ground.depth, self.ground.budget], [0, 2])


class GiveBackTest(Base):
    def test_flush_above_twice_the_lot(self):
        for lot in (1, 2, 8):
            self.make(pages=40, zones=((26, 0, 0),), lot=lot, spare=0)
            spans = [self.play("take", 3, 1) for _ in range(3 * lot)]
            self.assertEqual(self.play("starts_in", 1, 2), [])
            for count, span in enumerate(spans, start=1):
                self.assertEqual(self.play("give_back", span[0], 1), span)
                starts = self.play("starts_in", 1, 2)
                self.assertEqual(len(starts), count if count <= 2 * lot else count - lot)
            self.play("settle")
            self.assertEqual(self.ground.image(), self.start)

    def test_highest_go_first(self):
        self.make(pages=40, zones=((26, 0, 0),), lot=2, spare=0)
        spans = sorted(self.play("take", 3, 1) for _ in range(6))
        for at in (5, 0, 3, 2):
            self.play("give_back", spans[at][0], 1)
        self.play("give_back", spans[1][0], 1)
        self.assertEqual(self.play("starts_in", 1, 2), [spans[at][0] for at in (0, 1, 2)])

    def test_refusals(self):
        self.make()
        start = self.play("take", 3, 1)[0]
        waiting = self.play("starts_in", 1, 2)[0]
        self.assertEqual(self.play("give_back", start, 2), ("NotHeld", (start, 1)))
        self.assertEqual(self.play("give_back", waiting, 1), ("NotHeld", (waiting, 11)))
        self.play("give_back", start, 1)
        self.assertEqual(self.play("give_back", start, 1), ("NotHeld", (start, 11)))
        starts = [each for each, _ in self.plain.caches[2].slots()]
        for place in range(self.ground.top):
            if place not in starts:
                self.assertEqual(told_by(self.maker(self.ground).give_back, place, 1), ("Unknown", ("start",)))
        # A block with another label is none of the drawers'.
        block = Buddies(self.ground).take(0, 99, 1)
        self.assertEqual(told_by(self.maker(self.ground).give_back, block[0] + 1, 1), ("Unknown", ("start",)))
        for label in (99, 106, 110):
            block = Buddies(self.ground).take(0, label, 1)
            for place in range(block[0], block[0] + 16):
                self.assertEqual(told_by(self.maker(self.ground).give_back, place, 1), ("Unknown", ("start",)))

    def test_flush_and_settle(self):
        self.make(lot=3)
        spans = [(user, self.play("take", size, user)) for user, size in ((1, 3), (1, 8), (2, 3), (8, 1))]
        self.assertEqual(self.play("flush", 3), 0)
        self.assertEqual(self.play("flush", 1), 4)
        self.assertEqual(self.play("flush", 1), 0)
        self.assertEqual(self.play("settle"), 4)
        for user, span in spans:
            self.play("give_back", span[0], user)
        self.assertEqual(self.play("settle"), 4)
        self.assertEqual(self.ground.image(), self.start)
        self.assertEqual(self.play("settle"), 0)

    def test_wrong(self):
        self.make(zones=((8, 0, 0), (4, 0, 1)))
        drawers = self.maker(self.ground)
        start = drawers.take(3, 1)[0]
        before = state(self.ground)
        for size in (3, 9):
            check_wrong(self, drawers.take, {"size": size, "holder": 1, "align": 1, "urgent": False}, {
                "size": no_integer_in(1, 1000000000), "holder": NO_USERS, "align": no_align_upto(1073741824),
                "urgent": NO_FLAGS}, named=("align", "urgent"))
        for good in (start, 0):
            check_wrong(self, drawers.give_back, {"start": good, "holder": 2}, {
                "start": no_integer_in(0, self.ground.top - 1), "holder": NO_USERS})
        check_wrong(self, drawers.flush, {"holder": 1}, {"holder": NO_USERS})
        check_wrong(self, drawers.starts_in, {"holder": 1, "index": 1}, {
            "holder": NO_USERS, "index": no_integer_in(0, 5)})
        good = {"buddies": Buddies(self.ground), "lot": 1, "spare": 1, "zone": 1}
        check_wrong(self, Drawers, good, {
            "buddies": NO_BUDDIES, "lot": no_integer_in(1, 8), "spare": no_integer_in(0, 256),
            "zone": no_integer_in(1, 2)}, named=("lot", "spare", "zone"))
        self.assertEqual(state(self.ground), before)
        for width, most in ((32, 7), (64, 9)):
            drawers = Drawers(start_buddies(Ground(24, width), [(8, 0, 0)]), lot=8, spare=256)
            self.assertEqual(drawers.starts_in(8, most), [])
            check_wrong(self, drawers.starts_in, {"holder": 1, "index": 1}, {"index": no_integer_in(0, most)})

    def test_first_broken_of_the_lowest_class(self):
        self.make()
        high = self.play("take", 8, 1)[0]
        low = self.play("take", 1, 1)[0]
        self.poke(high - 1, 3)
        self.assertEqual(self.play("first_broken"), (high - 1, 3, 60001))
        self.poke(low - 1, 3)
        self.assertEqual(self.play("first_broken"), (low - 1, 3, 60001))

    def test_lists_are_new(self):
        self.make()
        drawers = self.maker(self.ground)
        drawers.take(3, 1)
        drawers.handed().clear()
        drawers.starts_in(1, 2).clear()
        self.assertEqual([len(drawers.handed()), len(drawers.starts_in(1, 2))], [1, 1])


class PaperTest(Base):
    def setUp(self):
        self.make(zones=((3, 0, 0), (2, 0, 1)), zone=2, lot=2)
        told = None
        while not is_refusal(told):
            told = self.play("take", 6, 3)
        self.paper = told[1][0]
        self.image = self.ground.image()

    def test_bent_papers(self):
        self.assertEqual(self.paper[:2], ("drawers", 4))
        wrong = 0
        for paper in [self.paper] + bendings(self.paper):
            for zone, urgent in ((1, False), (2, False), (2, True)):
                due = self.plain.is_paper(paper, zone, urgent)
                self.assertIs(is_no_drawer(self.image, paper, zone=zone, urgent=urgent), due, paper)
                wrong += not due
        self.assertGreater(wrong, 100)
        self.assertIs(is_no_drawer(self.image, self.paper, zone=2), True)

    def test_left_out(self):
        ground = Ground(28, 16)
        drawers, same = Drawers(start_buddies(ground, [(6, 0, 0), (2, 0, 1)])), Drawers(
            Buddies(ground), lot=2, spare=1, zone=1)
        spans = [drawers.take(3, 1) for _ in range(9)]
        self.assertEqual(len(same.starts_in(1, 2)), 1)
        for span in spans:
            drawers.give_back(span[0], 1)
        same.flush(1)
        self.assertEqual(len(Buddies(ground).given(102)), 1)
        for _ in range(18):
            drawers.take(3, 1)
        told = outcome(drawers.take, 3, 1)
        self.assertEqual(told[1][0][2][3], ((1, "few", 0),))
        self.assertIs(is_no_drawer(ground.image(), told[1][0]), True)

    def test_labels_and_classes(self):
        inner = self.paper[2]
        for number in range(8):
            for label in (100 + number, 100, 104, 7):
                paper = ("drawers", number, ("slots", label, tuple(self.plain.buddies.pages_of(label)), inner[3]))
                self.assertIs(is_no_drawer(self.image, paper, zone=2), self.plain.is_paper(paper, 2, False), paper)

    def test_slot_in_a_drawer(self):
        start = self.plain.handed()[0][0]
        self.play("give_back", start, 3)
        self.assertIs(is_no_drawer(self.ground.image(), self.paper, zone=2), False)
        self.play("take", 6, 5)
        self.assertIs(is_no_drawer(self.ground.image(), self.paper, zone=2), True)
        self.play("give_back", start, 5)
        self.play("flush", 5)
        self.assertIs(is_no_drawer(self.ground.image(), self.paper, zone=2), False)

    def test_any_value(self):
        for value in ODD_VALUES + (("drawers",), ("drawers", 4, ()), ("drawers", 4, None), [*self.paper]):
            self.assertIs(is_no_drawer(self.image, value), False)

    def test_damaged_maps(self):
        rng = random.Random(34)
        for _ in range(150):
            ground = ground_of(self.image)
            for _ in range(3):
                ground.poke(rng.randrange(10, 10 + 28 * 4), rng.choice((0, 1, 5, 9, 21, 22, 25, 29, 104, 65535)))
            self.assertIn(is_no_drawer(ground.image(), self.paper, zone=2), (True, False))

    def test_wrong(self):
        for paper in (self.paper, None):
            check_wrong(
                self, is_no_drawer, {"image": self.image, "paper": paper, "zone": 1, "urgent": False},
                {"image": NO_MAPS, "zone": no_integer_in(1, 2), "urgent": NO_FLAGS}, named=("zone", "urgent"))


class RandomTest(Base):
    SHAPES = (
        dict(zones=((5, 0, 0), (6, 1, 1)), lot=1, spare=0, zone=2), dict(zones=((8, 0, 0),), lot=2, spare=1, fill=7),
        dict(zones=((12, 0, 0),), lot=3, spare=256), dict(zones=((9, 2, 0),), lot=8, spare=1, width=32, fill=65535),
        dict(zones=((10, 0, 0),), lot=4, spare=0, width=64))

    def test_against_the_plain_model(self):
        refusals = {}
        for seed, shape in enumerate(self.SHAPES * 2):
            rng = random.Random(seed)
            self.make(**shape)
            self.sizes = rng.choice(((1, 3), (3, 8), (1, 2, 3, 4, 6, 8, 9), (8, 6)))
            for _ in range(130):
                told = self.step(rng)
                if is_refusal(told):
                    refusals[told[0]] = refusals.get(told[0], 0) + 1
            self.all_back()
        self.assertEqual(sorted(refusals), ["Broken", "NoRoom", "NotHeld", "Unknown"])
        self.assertGreater(min(refusals.values()), 5, refusals)

    def step(self, rng):
        """Makes one random call, and now and then a poke."""
        choice = rng.random()
        handed = self.plain.handed()
        named = {}
        if choice < 0.55 or not handed:
            named = {"urgent": rng.random() < 0.3}
            told = self.play(
                "take", rng.choice(self.sizes), rng.randint(1, 8), align=rng.choice((1, 1, 1, 2, 4, 8)), **named)
        elif choice < 0.9:
            start, _, holder = rng.choice(handed)
            holder = holder if rng.random() < 0.9 else rng.randint(1, 8)
            told = self.play("give_back", start + (rng.random() < 0.05), holder)
        elif choice < 0.98:
            told = self.play("flush", rng.randint(1, 8))
        else:
            told = self.play("settle")
        if is_refusal(told) and told[0] == "NoRoom":
            zone = self.plain.caches[0].zone
            self.assertIs(is_no_drawer(self.ground.image(), told[1][0], zone=zone, **named), True)
        self.look(rng)
        if rng.random() < 0.25 and self.plain.buddies.cells:
            self.poke(rng.choice(sorted(self.plain.buddies.cells)), rng.choice((0, 60001, 60002)))
        elif rng.random() < 0.1:
            self.mend()
        return told

    def look(self, rng):
        """Compares what can be looked at."""
        drawers = self.maker(self.ground)
        self.assertEqual(drawers.handed(), self.plain.handed())
        self.assertEqual(drawers.first_broken(), self.plain.first_broken())
        user, number = rng.randint(1, 8), rng.randrange(len(self.plain.caches))
        self.assertEqual(drawers.starts_in(user, number), self.plain.starts_in(user, number))

    def mend(self):
        """Puts all damaged words back."""
        while self.plain.first_broken():
            place, _, due = self.plain.first_broken()
            self.poke(place, due)

    def all_back(self):
        """Gives everything back and looks at the image."""
        self.mend()
        for start, _, holder in self.plain.handed():
            self.play("give_back", start, holder)
        self.play("settle")
        self.assertEqual(self.ground.image(), self.start)

    def test_greatest_ground(self):
        ground = Ground(256, 64)
        start = start_buddies(ground, [(239, 0, 0)]).ground.image()
        drawers = Drawers(Buddies(ground), lot=8, spare=256)
        rng = random.Random(7)
        held = []
        for _ in range(500):
            user = rng.randint(1, 8)
            held.append((drawers.take(rng.choice((1, 3, 8, 24, 32)), user), user))
        places = {place for (at, size), _ in held for place in range(at, at + size)}
        self.assertEqual(len(places), sum(span[1] for span, _ in held))
        for span, user in held:
            self.assertEqual(drawers.give_back(span[0], user), span)
        drawers.settle()
        self.assertEqual(ground.image(), start)


del Base

if __name__ == "__main__":
    unittest.main()
