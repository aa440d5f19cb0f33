"""Point 45 and the interface of regions.py."""

import itertools
import random
import unittest

from allgivenback.buddies import start_buddies
from allgivenback.ground import Ground, ground_of
from allgivenback.regions import Region, is_no_item, start_region
from tests.bed_models import PlainRegion
from tests.helpers import ODD_VALUES, bendings, check_wrong, is_refusal, no_align_upto, no_integer_in, play, state
from tests.helpers import told_by
from tests.test_buddies import NO_GROUNDS
from tests.test_drawers import NO_USERS
from tests.test_images import NO_IMAGES
from tests.test_marks import with_place


class Base(unittest.TestCase):
    def make(self, size, start=0, fill=0, pages=4):
        """Makes a ground with a region, and its plain model."""
        self.ground = Ground(pages, 16, fill=fill)
        self.ground.pass_on(start, size, 0, 25)
        self.region = start_region(self.ground, start, size)
        self.maker = lambda ground: Region(ground, start, size)
        self.plain = PlainRegion(self.ground.image(), start, size)
        self.new = self.ground.image()
        self.assertEqual(self.new, self.plain.image())

    def play(self, *values, **named):
        told = play(self, self.maker, self.ground, self.plain, *values, **named)
        for name in ("mark", "items_in", "handed"):
            self.assertEqual(getattr(self.maker(self.ground), name)(), getattr(self.plain, name)())
        return told


class StartTest(unittest.TestCase):
    def test_new_region(self):
        for pages, width, start, size, fill in (
                (1, 16, 0, 2, 0), (1, 16, 14, 2, 9), (2, 16, 3, 20, 65535), (256, 64, 0, 16384, 7)):
            ground = Ground(pages, width, fill=fill)
            ground.pass_on(start, size, 0, 25)
            before = ground.spent
            region = start_region(ground, start, size)
            self.assertIs(type(region), Region)
            words = [fill] * (pages * width)
            words[start] = start + 1
            self.assertEqual(ground.image()[2], tuple(words))
            self.assertEqual(ground.held_by(25).spans, [(start, size)])
            self.assertEqual([region.mark(), region.items_in(), region.handed()], [start + 1, [], []])
            self.assertEqual([ground.spent - before, ground.depth], [1, 0])

    def test_refused_beds(self):
        ground = Ground(2, 16, fill=9)
        ground.pass_on(3, 20, 0, 25)
        ground.pass_on(12, 1, 25, 24)
        before = state(ground)
        self.assertEqual(told_by(start_region, ground, 3, 20), ("NotHeld", (12, 24)))
        self.assertEqual(told_by(start_region, ground, 2, 10), ("NotHeld", (2, 0)))
        ground.poke(12, 4)
        ground.poke(20, 1)
        ground.poke(18, 2)
        self.assertEqual(told_by(start_region, ground, 3, 20), ("Broken", (18, 2, 9)))
        self.assertEqual(told_by(start_region, ground, 3, 15), ("NotHeld", (12, 24)))
        ground.poke(18, 9)
        ground.poke(20, 9)
        ground.poke(12, 9)
        self.assertEqual(state(ground)[0], before[0])
        self.assertEqual(start_region(ground, 3, 9).mark(), 4)
        self.assertEqual(told_by(start_region, ground, 3, 9), ("Broken", (3, 4, 9)))

    def test_wrong(self):
        ground = Ground(2, 16)
        before = state(ground)
        for start in (0, 3):
            for call in (start_region, Region):
                check_wrong(self, call, {"ground": ground, "start": start, "size": 20}, {
                    "ground": NO_GROUNDS, "start": no_integer_in(0, 31), "size": no_integer_in(2, 32 - start)})
        self.assertEqual(told_by(start_region, ground, 31, 2), ("BadValue", ("size",)))
        self.assertIsNone(told_by(Region, ground, 30, 2))
        self.assertEqual(state(ground), before)


class TakeTest(Base):
    def test_one_behind_the_other(self):
        self.make(20, start=3, fill=9)
        self.assertEqual(self.play("take", 3, 1), (5, 3))
        self.assertEqual(self.play("take", 1, 2), (9, 1))
        self.assertEqual(self.play("take", 2, 1, align=4), (12, 2))
        self.assertEqual(self.play("items_in"), [(4, 3, True), (8, 1, True), (10, 0, False), (11, 2, True)])
        self.assertEqual(self.ground.image()[2][3:15], (14, 7, 9, 9, 9, 3, 9, 0, 5, 9, 9, 9))
        self.assertEqual(self.ground.image()[3][3:15], (25, 25, 1, 1, 1, 25, 2, 25, 25, 1, 1, 25))
        self.assertEqual(self.play("handed"), [(5, 3, 1), (9, 1, 2), (12, 2, 1)])

    def test_room(self):
        for size in (2, 3, 4, 5, 9):
            self.make(size)
            self.assertEqual(self.play("take", size - 1, 1), ("NoRoom", (("region", size - 1),)))
            self.assertEqual(self.play("take", 16384, 1), ("NoRoom", (("region", size - 1),)))
            if size > 2:
                self.assertEqual(self.play("take", size - 2, 8), (2, size - 2))
                self.assertEqual(self.play("take", 1, 1), ("NoRoom", (("region", 0),)))
                self.assertIs(is_no_item(self.ground.image(), 0, size, ("region", 0), 1), True)

    def test_fillers(self):
        for start, align, before in itertools.product(range(6), (1, 2, 4, 8, 16), (1, 2, 3)):
            self.make(50, start=start, fill=5)
            self.play("take", before, 1)
            told = self.play("take", 2, 2, align=align)
            self.assertEqual(told[0] % align, 0)
            self.play("take", 2, 2, align=align)
            self.assertEqual(self.play("release", start + 1, 2), ("NotHeld", (start + 2, 1)))

    def test_greatest_bed(self):
        ground = Ground(256, 64)
        ground.pass_on(0, 16384, 0, 25)
        region = start_region(ground, 0, 16384)
        new = ground.image()
        self.assertEqual(region.take(16384 - 2, 1), (2, 16382))
        self.assertEqual(region.mark(), 16384)
        self.assertEqual(told_by(region.release, 16384, 1), None)
        self.assertEqual(region.release(1, 1), 1)
        self.assertEqual(ground.image(), new)
        self.assertEqual([region.take(1, 1, align=4096)[0] for _ in range(3)], [4096, 8192, 12288])
        self.assertEqual(told_by(region.take, 1, 1, align=4096), ("NoRoom", (("region", 4095),)))
        for _ in range(2047):
            region.take(1, 2)
        self.assertEqual(told_by(region.take, 1, 1), ("NoRoom", (("region", 1),)))
        self.assertEqual(told_by(region.release, 1, 2), ("NotHeld", (4096, 1)))
        self.assertEqual([region.release(12289, 2), region.release(1, 1), len(region.items_in())], [2047, 3, 0])
        self.assertEqual(ground.image(), new)

    def test_wrong(self):
        self.make(20)
        before = state(self.ground)
        for size in (1, 16384):
            check_wrong(self, self.region.take, {"size": size, "holder": 1, "align": 4096}, {
                "size": no_integer_in(1, 16384), "holder": NO_USERS, "align": no_align_upto(4096)}, named=("align",))
        for mark in (0, 1, 64):
            check_wrong(self, self.region.release, {"mark": mark, "holder": 1}, {
                "mark": no_integer_in(0, 64), "holder": NO_USERS})
        self.assertEqual(state(self.ground), before)


class ReleaseTest(Base):
    def setUp(self):
        self.make(40, start=5, fill=9)
        self.spans = [self.play("take", size, user, align=align) for size, user, align in (
            (2, 1, 1), (3, 1, 8), (1, 2, 4), (4, 2, 1), (2, 2, 8))]
        for place in sorted(self.plain.payload):
            word, holder = 100 + place, self.ground.holder_at(place)
            self.ground.write(place, word, holder)
            self.plain.payload[place] = (word, holder)

    def test_each_mark(self):
        items = self.play("items_in")
        self.assertGreater(sum(not used for _, _, used in items), 1)
        marks = [head for head, _, _ in items] + [self.play("mark")]
        for mark in range(self.ground.top + 1):
            for holder in (1, 2, 3):
                self.setUp()
                told = self.play("release", mark, holder)
                if mark not in marks:
                    self.assertEqual(told, ("Unknown", ("mark",)))
                elif not is_refusal(told):
                    self.assertEqual(self.region.mark(), mark)
        self.setUp()
        self.assertEqual(self.play("release", self.play("mark"), 7), 0)

    def test_fillers_stay(self):
        fillers = [head for head, _, used in self.plain.items if not used]
        head = fillers[-1]
        self.assertEqual(self.play("release", head, 2), 1)
        self.assertEqual(self.play("items_in")[-1][2], True)
        # Two fillers side by side stay two items.
        self.make(40)
        self.play("take", 1, 1)
        self.play("take", 1, 2, align=8)
        self.play("release", 7, 2)
        self.play("take", 1, 2, align=16)
        rows = [(1, 1, True), (3, 3, False), (7, 7, False), (15, 1, True)]
        self.assertEqual(self.play("items_in"), rows)
        self.assertEqual(self.play("release", 15, 2), 1)
        self.assertEqual(self.play("items_in"), rows[:3])
        self.assertEqual(self.play("release", 7, 2), 0)
        self.assertEqual(self.play("items_in"), rows[:2])

    def test_all_back(self):
        self.assertEqual(self.play("release", self.spans[2][0] - 1, 2), 3)
        self.assertEqual(self.play("release", 6, 2), ("NotHeld", (self.spans[0][0], 1)))
        self.assertEqual(self.play("release", 6, 1), 2)
        self.assertEqual(self.ground.image(), self.new)
        self.assertEqual(self.play("release", 6, 3), 0)

    def test_places_passed_on_in_parts(self):
        place = self.spans[3][0] + 2
        self.ground.pass_on(place, 1, 2, 6)
        self.plain.payload[place] = (self.plain.payload[place][0], 6)
        self.assertEqual(self.play("release", self.spans[2][0] - 1, 2), ("NotHeld", (place, 6)))
        self.assertEqual(self.play("release", self.spans[3][0] - 1, 6), ("NotHeld", (self.spans[3][0], 2)))
        self.assertEqual(self.play("release", self.spans[4][0] - 1, 2), 1)

    def test_lists_are_new(self):
        count = len(self.region.items_in())
        self.region.items_in().clear()
        self.region.handed().clear()
        self.assertEqual([len(self.region.items_in()), len(self.region.handed())], [count, 5])


class PaperTest(Base):
    def setUp(self):
        self.make(20, start=3)
        self.play("take", 3, 1)
        self.play("take", 5, 2)
        self.image = self.ground.image()

    def judge(self, paper, wanted, **named):
        return is_no_item(self.image, 3, 20, paper, wanted, **named)

    def test_right_and_bent(self):
        self.assertEqual(self.play("take", 9, 1), ("NoRoom", (("region", 9),)))
        self.assertIs(self.judge(("region", 9), 9), True)
        for paper in bendings(("region", 9)):
            self.assertIs(self.judge(paper, 9), False, paper)

    def test_wanted(self):
        for wanted, align in itertools.product((1, 2, 5, 7, 8, 9, 10, 16384), (1, 2, 4, 8, 16, 32, 4096)):
            told = told_by(self.maker(ground_of(self.image)).take, wanted, 1, align=align)
            self.assertIs(self.judge(("region", 9), wanted, align=align), told == ("NoRoom", (("region", 9),)))

    def test_left_out(self):
        # The least place is 15, which is odd.
        self.assertIs(self.judge(("region", 9), 8), False)
        self.assertIs(self.judge(("region", 9), 8, align=2), True)
        self.assertEqual(self.region.take(8, 1), (15, 8))

    def test_room_of_one(self):
        self.make(9)
        self.play("take", 6, 1)
        self.assertIs(is_no_item(self.ground.image(), 0, 9, ("region", 1), 1), True)
        self.assertIs(is_no_item(self.ground.image(), 0, 9, ("region", True), 1), False)
        self.play("release", 1, 1)
        self.play("take", 7, 1)
        self.assertIs(is_no_item(self.ground.image(), 0, 9, ("region", 0), 1), True)
        self.assertIs(is_no_item(self.ground.image(), 0, 9, ("region", False), 1), False)

    def test_first_place(self):
        for word in range(0, 48):
            image = with_place(self.image, 3, word)
            for room in (23 - word, 0, 9):
                due = 4 <= word <= 23 and room == 23 - word
                self.assertIs(is_no_item(image, 3, 20, ("region", room), 30), due, (word, room))
        for holder in (0, 1, 24, 26):
            self.assertIs(is_no_item(with_place(self.image, 3, holder=holder), 3, 20, ("region", 9), 9), False)

    def test_any_value(self):
        for value in ODD_VALUES + (("region",), ["region", 9], ("region", 9, 9)):
            self.assertIs(self.judge(value, 9), False)

    def test_wrong(self):
        for paper in (("region", 9), None):
            check_wrong(
                self, is_no_item,
                {"image": self.image, "start": 3, "size": 20, "paper": paper, "wanted": 9, "align": 1},
                {"image": NO_IMAGES, "start": no_integer_in(0, 63), "size": no_integer_in(2, 61),
                 "wanted": no_integer_in(1, 16384), "align": no_align_upto(4096)}, named=("align",))
        # The last place is a right start, but no bed has room there.
        self.assertEqual(told_by(is_no_item, self.image, 63, 2, None, 1), ("BadValue", ("size",)))


class RandomTest(Base):
    def test_against_the_plain_model(self):
        refusals = {}
        for seed in range(16):
            rng = random.Random(seed)
            self.make(rng.choice((9, 20, 45, 60)), start=rng.randrange(4), fill=rng.choice((0, 7, 65535)))
            for _ in range(100):
                told = self.step(rng)
                if is_refusal(told):
                    refusals[told[0]] = refusals.get(told[0], 0) + 1
            for place in self.plain.payload:
                self.ground.pass_on(place, 1, self.ground.holder_at(place), 1)
                self.plain.payload[place] = (self.ground.word_at(place), 1)
            self.play("release", self.plain.start + 1, 1)
            self.assertEqual(self.ground.image(), self.new)
        self.assertEqual(sorted(refusals), ["NoRoom", "NotHeld", "Unknown"])
        self.assertGreater(min(refusals.values()), 15, refusals)

    def step(self, rng):
        """Makes one random call, and now and then a write or a passing on."""
        if rng.random() < 0.7:
            size, align = rng.choice((1, 1, 2, 3, 7)), rng.choice((1, 1, 2, 4, 8, 16))
            told = self.play("take", size, rng.randint(1, 2), align=align)
            if is_refusal(told):
                self.assertIs(is_no_item(
                    self.ground.image(), self.plain.start, self.plain.size, told[1][0], size, align=align), True)
        else:
            marks = [head for head, _, _ in self.plain.items] + [self.plain.edge()]
            mark = rng.choice(marks[-3:] + [rng.choice(marks)]) + (rng.random() < 0.1)
            told = self.play("release", mark, rng.randint(1, 2))
        places = sorted(self.plain.payload)
        if places and rng.random() < 0.4:
            place, word, holder = rng.choice(places), rng.randrange(65536), rng.randint(1, 2)
            self.ground.write(place, word, self.ground.holder_at(place))
            self.ground.pass_on(place, 1, self.ground.holder_at(place), holder)
            self.plain.payload[place] = (word, holder)
        return told

    def test_deeds(self):
        self.make(30)
        span = self.region.take(3, 1)
        before = state(self.ground)
        self.ground.begin()
        self.region.take(4, 2, align=16)
        self.assertEqual(told_by(self.region.release, span[0] - 1, 1), ("NotHeld", (16, 2)))
        self.assertEqual(self.ground.depth, 1)
        self.region.release(self.region.items_in()[1][0], 2)
        self.region.release(1, 1)
        self.assertEqual(self.ground.image(), self.new)
        self.ground.cancel()
        self.assertEqual(state(self.ground), before)
        self.ground.budget = 4
        # The edge, the head and three places; a filler of no places has a head of 0, which is fill.
        self.assertEqual(told_by(self.region.take, 3, 1), ("Cut", (5, 4)))
        self.assertEqual(told_by(self.region.release, 1, 1), ("Cut", (5, 4)))
        self.assertEqual(self.region.release(span[0] + 3, 5), 0)
        self.assertEqual([self.ground.budget, self.ground.depth, self.ground.image()], [4, 0, before[0]])
        blank = Ground(2, 16, budget=20)
        blank.pass_on(0, 20, 0, 25)
        self.assertEqual(told_by(start_region, blank, 0, 20), ("Cut", (1, 0)))

    def test_equal_regions_over_one_bed(self):
        self.make(30)
        other = Region(self.ground, 0, 30)
        self.region.take(3, 1)
        self.assertEqual(other.take(2, 2), (6, 2))
        self.assertEqual(self.region.release(5, 2), 1)
        copy = Region(ground_of(self.ground.image()), 0, 30)
        self.assertEqual([copy.items_in(), copy.mark()], [self.region.items_in(), 5])

    def test_part_of_a_block(self):
        ground = Ground(24, 16)
        buddies = start_buddies(ground, [(16, 0, 0)])
        before = ground.image()
        start, size = buddies.take(2, 77, 25)
        first, second = start_region(ground, start, 30), start_region(ground, start + 30, size - 30)
        first.take(20, 1)
        second.take(20, 2)
        self.assertEqual([len(first.handed()), len(second.handed())], [1, 1])
        self.assertEqual([first.release(start + 1, 1), second.release(start + 31, 2)], [1, 1])
        buddies.give_back(start, 25)
        self.assertEqual(ground.image(), before)


del Base

if __name__ == "__main__":
    unittest.main()
