"""Point 48 and the interface of handles.py."""

import random
import time
import unittest

from allgivenback.buddies import start_buddies
from allgivenback.ground import Ground, ground_of
from allgivenback.handles import Handles, is_no_parcel, start_handles
from tests.bed_models import PlainHandles
from tests.helpers import ODD_VALUES, bendings, check_wrong, is_refusal, no_integer_in, outcome, play, state, told_by
from tests.test_buddies import NO_GROUNDS
from tests.test_drawers import NO_USERS
from tests.test_images import NO_IMAGES, NO_WORDS
from tests.test_marks import with_place


class Base(unittest.TestCase):
    def make(self, size, slots, start=0, fill=0, pages=4):
        """Makes a ground with handles, and their plain model."""
        self.ground = Ground(pages, 16, fill=fill)
        self.ground.pass_on(start, size, 0, 26)
        self.handles = start_handles(self.ground, start, size, slots)
        self.maker = lambda ground: Handles(ground, start, size)
        self.plain = PlainHandles(self.ground.image(), start, size, slots)
        self.new = self.ground.image()
        self.assertEqual(self.new, self.plain.image())

    def play(self, *values, **named):
        told = play(self, self.maker, self.ground, self.plain, *values, **named)
        for name in ("layout", "handed"):
            self.assertEqual(getattr(self.maker(self.ground), name)(), getattr(self.plain, name)())
        return told

    def pass_on(self, place, taker):
        """Passes one place of a payload on to another user."""
        self.ground.pass_on(place, 1, self.ground.holder_at(place), taker)
        for first, _, cells in self.plain.used.values():
            if first + 2 <= place < first + 2 + len(cells):
                cells[place - first - 2][1] = taker

    def number(self, handle):
        """Gives each place of a payload a word of its own."""
        start, size = self.handles.span_at(handle)
        holder = self.ground.holder_at(start)
        for k in range(size):
            self.play("write", handle, k, 100 * handle + k, holder)


class StartTest(unittest.TestCase):
    def test_new_handles(self):
        for pages, width, start, size, slots, fill in (
                (1, 16, 0, 5, 1, 0), (1, 16, 11, 5, 1, 9), (2, 16, 3, 20, 16, 65535), (256, 64, 0, 16384, 64, 7)):
            ground = Ground(pages, width, fill=fill)
            ground.pass_on(start, size, 0, 26)
            before = ground.spent
            handles = start_handles(ground, start, size, slots)
            self.assertIs(type(handles), Handles)
            words = [fill] * (pages * width)
            words[start:start + slots + 1] = [slots] + [0] * slots
            self.assertEqual(ground.image()[2], tuple(words))
            self.assertEqual(ground.held_by(26).spans, [(start, size)])
            self.assertEqual([handles.layout(), handles.handed()], [(start + 1 + slots, start + size, []), []])
            self.assertEqual(ground.depth, 0)
            changed = (slots != fill) + slots * (fill != 0)
            self.assertEqual(ground.spent - before, changed)

    def test_refused_beds(self):
        ground = Ground(2, 16, fill=9)
        ground.pass_on(3, 20, 0, 26)
        ground.pass_on(12, 1, 26, 24)
        before = state(ground)
        self.assertEqual(told_by(start_handles, ground, 3, 20, 2), ("NotHeld", (12, 24)))
        self.assertEqual(told_by(start_handles, ground, 2, 10, 2), ("NotHeld", (2, 0)))
        self.assertEqual(state(ground), before)
        for place, word in ((12, 4), (20, 1), (18, 2)):
            ground.poke(place, word)
        self.assertEqual(told_by(start_handles, ground, 3, 20, 2), ("Broken", (18, 2, 9)))
        self.assertEqual(told_by(start_handles, ground, 3, 15, 2), ("NotHeld", (12, 24)))
        for place in (12, 20, 18):
            ground.poke(place, 9)
        start_handles(ground, 3, 9, 5)
        self.assertEqual(told_by(start_handles, ground, 3, 9, 5), ("Broken", (3, 5, 9)))

    def test_wrong(self):
        ground = Ground(8, 16)
        before = state(ground)
        for start, size, most in ((0, 5, 1), (3, 20, 16), (0, 68, 64), (0, 128, 64)):
            check_wrong(self, start_handles, {"ground": ground, "start": start, "size": size, "slots": 1}, {
                "ground": NO_GROUNDS, "start": no_integer_in(0, 127), "size": no_integer_in(5, 128 - start),
                "slots": no_integer_in(1, most)})
            check_wrong(self, Handles, {"ground": ground, "start": start, "size": size}, {
                "ground": NO_GROUNDS, "start": no_integer_in(0, 127), "size": no_integer_in(5, 128 - start)})
            self.assertEqual(told_by(start_handles, ground, start, size, most), ("NotHeld", (start, 0)))
        self.assertEqual(told_by(Handles, ground, 124, 5), ("BadValue", ("size",)))
        self.assertIsNone(told_by(Handles, ground, 123, 5))
        self.assertEqual(state(ground), before)


class TakeTest(Base):
    def test_without_moves(self):
        self.make(24, 3, start=3, fill=9)
        self.assertEqual(self.play("take", 3, 1), 1)
        self.assertEqual(self.play("take", 1, 2), 2)
        self.assertEqual(self.ground.image()[2][3:16], (3, 7, 12, 0, 2, 3, 9, 9, 9, 4, 1, 9, 9))
        self.assertEqual(self.ground.image()[3][3:16], (26,) * 6 + (1, 1, 1, 26, 26, 2, 26))
        self.assertEqual(self.play("span_at", 1), (9, 3))
        self.assertEqual(self.play("span_at", 2), (14, 1))
        self.assertEqual(self.play("handed"), [(9, 3, 1), (14, 1, 2)])

    def test_lowest_handle_and_lowest_gap(self):
        self.make(40, 4)
        for size in (3, 2, 4):
            self.play("take", size, 1)
        self.play("give_back", 2, 1)
        self.assertEqual(self.play("take", 2, 2), 2)
        self.assertEqual(self.play("span_at", 2), (12, 2))
        self.play("give_back", 1, 1)
        self.play("give_back", 2, 2)
        self.assertEqual(self.play("take", 5, 3), 1)
        self.assertEqual(self.play("span_at", 1), (7, 5))

    def test_least_bed(self):
        self.make(5, 1)
        self.assertEqual(self.play("take", 2, 1), ("NoRoom", (("handles", ((2, 5, 3),)),)))
        self.assertEqual(self.play("take", 16384, 1), ("NoRoom", (("handles", ((2, 5, 3),)),)))
        self.assertEqual(self.play("take", 1, 8), 1)
        self.assertEqual(self.play("take", 1, 1), ("NoRoom", (("table", 1),)))
        self.assertEqual(self.play("give_back", 1, 8), (4, 1))
        self.assertEqual(self.ground.image(), self.new)

    def test_no_table_before_no_room(self):
        self.make(11, 2)
        self.play("take", 1, 1)
        self.play("take", 1, 1)
        self.assertEqual(self.play("take", 16384, 1), ("NoRoom", (("table", 2),)))

    def test_moves_take_words_and_holders_along(self):
        self.make(30, 4, fill=7)
        for size in (3, 2, 3, 2):
            self.play("take", size, 1)
        for handle in (1, 2, 3, 4):
            self.number(handle)
        self.pass_on(self.handles.span_at(2)[0] + 1, 5)
        self.pass_on(self.handles.span_at(3)[0], 6)
        self.play("give_back", 1, 1)
        # There are 5 free places in front and 7 behind, so a parcel must move.
        self.assertEqual(self.play("take", 6, 2), 1)
        self.assertEqual(self.play("read", 2, 0, 1), 200)
        self.assertEqual(self.play("read", 2, 1, 5), 201)
        self.assertEqual(self.play("read", 3, 0, 6), 300)
        self.assertEqual(self.play("read", 3, 2, 1), 302)
        self.assertEqual(self.play("read", 4, 1, 1), 401)
        self.assertEqual([self.play("read", 1, k, 2) for k in range(6)], [7] * 6)
        self.assertEqual(self.play("read", 3, 1, 6), ("NotHeld", (self.handles.span_at(3)[0] + 1, 1)))

    def test_past_pinned_parcels(self):
        self.make(30, 5)
        for size in (2, 3, 2, 3, 2):
            self.play("take", size, 1)
        for handle in (1, 3, 5):
            self.play("give_back", handle, 1)
        self.play("pin", 2, 1)
        before = self.play("span_at", 2)
        # 4 places in front of the pinned parcel, 4 + 6 behind it: only the fourth parcel may move.
        told = self.play("take", 9, 2)
        self.assertTrue(is_refusal(told), told)
        self.assertEqual(told[1][0][0], "handles")
        self.assertEqual(len(told[1][0][1]), 2)
        self.assertEqual(self.play("take", 7, 2), 1)
        self.assertEqual(self.play("span_at", 2), before)
        self.play("give_back", 1, 2)
        self.play("unpin", 2, 1)
        self.assertEqual(self.play("take", 12, 2), 1)
        self.assertNotEqual(self.play("span_at", 2), before)

    def test_edge_of_table(self):
        for slots in (1, 2, 63, 64):
            self.make(4 * slots + 3, slots, pages=20)
            for handle in range(1, slots + 1):
                self.assertEqual(self.play("take", 1, handle % 8 + 1), handle)
            self.assertEqual(self.play("take", 1, 1), ("NoRoom", (("table", slots),)))
            self.assertIs(is_no_parcel(self.ground.image(), 0, 4 * slots + 3, ("table", slots), 1), True)
            self.play("give_back", slots, slots % 8 + 1)
            self.assertEqual(self.play("take", 3, 1), slots)

    def test_greatest_payload(self):
        ground = Ground(256, 64)
        ground.pass_on(0, 16384, 0, 26)
        handles = start_handles(ground, 0, 16384, 1)
        new = ground.image()
        self.assertEqual(told_by(handles.take, 16384, 1), ("NoRoom", (("handles", ((2, 16384, 16382),)),)))
        self.assertEqual(handles.take(16380, 1), 1)
        handles.write(1, 16379, 5, 1)
        self.assertEqual(ground.word_at(16383), 5)
        self.assertEqual(told_by(handles.read, 1, 16380, 1), ("Unknown", ("offset",)))
        self.assertEqual(handles.give_back(1, 1), (4, 16380))
        self.assertEqual(ground.image(), new)

    def test_without_delay(self):
        ground = Ground(256, 64)
        ground.pass_on(0, 16384, 0, 26)
        handles = start_handles(ground, 0, 16384, 64)
        started = time.monotonic()
        for k in range(64):
            handles.take(200, 1)
        for handle in range(1, 65, 2):
            handles.give_back(handle, 1)
        self.assertEqual(handles.take(9000, 2), 1)
        handles.compact()
        self.assertEqual(told_by(handles.take, 9000, 2)[0], "NoRoom")
        self.assertLess(time.monotonic() - started, 5)

    def test_wrong(self):
        self.make(20, 3)
        self.play("take", 2, 1)
        before = state(self.ground)
        for size in (1, 16384):
            check_wrong(self, self.handles.take, {"size": size, "holder": 1}, {
                "size": no_integer_in(1, 16384), "holder": NO_USERS})
        handles = no_integer_in(1, 3)
        for handle in (1, 3):
            check_wrong(self, self.handles.read, {"handle": handle, "offset": 0, "holder": 1}, {
                "handle": handles, "offset": no_integer_in(0, 16383), "holder": NO_USERS})
            check_wrong(self, self.handles.write, {"handle": handle, "offset": 16383, "word": 0, "holder": 1}, {
                "handle": handles, "offset": no_integer_in(0, 16383), "word": NO_WORDS, "holder": NO_USERS})
            for call in (self.handles.pin, self.handles.unpin, self.handles.give_back):
                check_wrong(self, call, {"handle": handle, "holder": 8}, {"handle": handles, "holder": NO_USERS})
            check_wrong(self, self.handles.span_at, {"handle": handle}, {"handle": handles})
        self.assertEqual(state(self.ground), before)


class UseTest(Base):
    def setUp(self):
        self.make(40, 4, start=2, fill=3)
        for size, user in ((3, 1), (1, 2), (4, 1)):
            self.play("take", size, user)
        self.number(1)
        self.number(3)
        self.play("give_back", 2, 2)

    def test_read_and_write(self):
        self.assertIsNone(self.play("write", 1, 2, 65535, 1))
        self.assertEqual(self.play("read", 1, 2, 1), 65535)
        self.assertEqual(self.play("read", 3, 3, 1), 303)

    def test_order_of_refusals(self):
        start = self.handles.span_at(1)[0]
        self.pass_on(start + 1, 4)
        for name, rest in (("read", ()), ("write", (9,))):
            self.assertEqual(self.play(name, 2, 99, *rest, 5), ("Unknown", ("handle",)))
            self.assertEqual(self.play(name, 4, 0, *rest, 5), ("Unknown", ("handle",)))
            self.assertEqual(self.play(name, 1, 3, *rest, 5), ("Unknown", ("offset",)))
            self.assertEqual(self.play(name, 1, 16383, *rest, 5), ("Unknown", ("offset",)))
            self.assertEqual(self.play(name, 1, 1, *rest, 1), ("NotHeld", (start + 1, 4)))
            self.assertFalse(is_refusal(self.play(name, 1, 0, *rest, 1)))
            self.assertFalse(is_refusal(self.play(name, 1, 1, *rest, 4)))
        for name in ("pin", "unpin", "give_back"):
            self.assertEqual(self.play(name, 2, 5), ("Unknown", ("handle",)))
            self.assertEqual(self.play(name, 1, 5), ("NotHeld", (start, 1)))
            self.assertEqual(self.play(name, 1, 1), ("NotHeld", (start + 1, 4)))
            self.assertEqual(self.play(name, 1, 4), ("NotHeld", (start, 1)))
        self.assertEqual(self.play("span_at", 2), ("Unknown", ("handle",)))

    def test_pins(self):
        for name, flag, odd in (("pin", True, 3), ("pin", True, 3), ("unpin", False, 2), ("unpin", False, 2)):
            self.assertIsNone(self.play(name, 1, 1))
            self.assertEqual(self.handles.layout()[2][0][2], flag)
            self.assertEqual(self.ground.word_at(self.handles.span_at(1)[0] - 2), odd)
        self.play("pin", 3, 1)
        self.assertEqual(self.play("give_back", 3, 1)[1], 4)
        self.play("give_back", 1, 1)
        self.assertEqual(self.ground.image(), self.new)

    def test_compact(self):
        span = self.play("span_at", 3)
        self.assertEqual(self.play("compact"), 6)
        self.assertEqual(self.play("span_at", 3), (span[0] - 3, 4))
        self.assertEqual([self.play("read", 3, k, 1) for k in range(4)], [300, 301, 302, 303])
        self.assertEqual(self.play("compact"), 0)
        self.play("give_back", 1, 1)
        self.play("pin", 3, 1)
        self.assertEqual(self.play("compact"), 0)
        self.play("unpin", 3, 1)
        self.assertEqual(self.play("compact"), 6)

    def test_lists_are_new(self):
        self.handles.layout()[2].clear()
        self.handles.handed().clear()
        self.assertEqual([len(self.handles.layout()[2]), len(self.handles.handed())], [2, 2])


class PaperTest(Base):
    def setUp(self):
        self.make(30, 3, start=2)
        for size in (4, 3, 4):
            self.play("take", size, 1)
        self.play("pin", 2, 1)
        self.play("give_back", 1, 1)
        self.image = self.ground.image()
        self.rows = ("handles", ((6, 12, 6), (17, 32, 9)))

    def judge(self, paper, wanted, image=None):
        return is_no_parcel(self.image if image is None else image, 2, 30, paper, wanted)

    def test_right_and_bent(self):
        self.assertEqual(self.play("take", 8, 1), ("NoRoom", (self.rows,)))
        for wanted in range(1, 20):
            told = told_by(self.maker(ground_of(self.image)).take, wanted, 1)
            self.assertIs(self.judge(self.rows, wanted), told is not None, wanted)
        self.assertIs(self.judge(self.rows, 16384), True)
        for paper in bendings(self.rows):
            self.assertIs(self.judge(paper, 8), False, paper)

    def test_table(self):
        self.assertIs(self.judge(("table", 3), 1), False)
        self.play("take", 1, 2)
        image = self.ground.image()
        for wanted in (1, 8, 16384):
            self.assertIs(self.judge(("table", 3), wanted, image), True)
        for paper in bendings(("table", 3)):
            self.assertIs(self.judge(paper, 9, image), False, paper)
        # Each paper is judged for itself.
        rows = ("handles", ((6, 12, 3), (17, 32, 9)))
        self.assertIs(self.judge(rows, 8, image), True)
        self.assertIs(self.judge(rows, 7, image), False)

    def test_table_of_one(self):
        self.make(8, 1)
        self.play("take", 1, 1)
        image = self.ground.image()
        self.assertIs(is_no_parcel(image, 0, 8, ("table", 1), 1), True)
        for odd in (True, 1.0, "1", None):
            self.assertIs(is_no_parcel(image, 0, 8, ("table", odd), 1), False)

    def test_first_place(self):
        for holder in (0, 1, 24, 25, 27, 28):
            self.assertIs(self.judge(self.rows, 8, with_place(self.image, 2, holder=holder)), False)

    def test_any_value(self):
        for value in ODD_VALUES + (("table",), ["table", 3], ("handles",), ("handles", None), ("handles", 1, 2)):
            self.assertIs(self.judge(value, 8), False)

    def test_damaged_bed_gives_a_flag(self):
        for place in range(2, 32):
            for word in (0, 1, 2, 6, 40, 63, 64, 400, 65535):
                image = with_place(self.image, place, word)
                for paper in (self.rows, ("table", word), ("table", 3), None):
                    self.assertIn(self.judge(paper, 8, image), (True, False))

    def test_wrong(self):
        for paper in (self.rows, None):
            check_wrong(
                self, is_no_parcel, {"image": self.image, "start": 2, "size": 30, "paper": paper, "wanted": 8},
                {"image": NO_IMAGES, "start": no_integer_in(0, 63), "size": no_integer_in(5, 62),
                 "wanted": no_integer_in(1, 16384)})
        self.assertEqual(told_by(is_no_parcel, self.image, 63, 5, None, 1), ("BadValue", ("size",)))


class RandomTest(Base):
    def test_against_the_plain_model(self):
        refusals, papers, moved = {}, {}, 0
        for seed in range(40):
            rng = random.Random(seed)
            self.make(
                rng.choice((12, 30, 45, 60)), rng.choice((2, 4, 6, 8)), start=rng.randrange(4), fill=rng.choice((0, 7)))
            for _ in range(120):
                before = {handle: row[0] for handle, row in self.plain.used.items()}
                told = self.step(rng)
                moved += any(before.get(handle, row[0]) != row[0] for handle, row in self.plain.used.items())
                if is_refusal(told):
                    refusals[told[0]] = refusals.get(told[0], 0) + 1
                    if told[0] == "NoRoom":
                        papers[told[1][0][0]] = papers.get(told[1][0][0], 0) + 1
            self.finish()
        self.assertEqual(sorted(refusals), ["NoRoom", "NotHeld", "Unknown"])
        self.assertEqual(sorted(papers), ["handles", "table"])
        self.assertGreater(min([moved, *refusals.values(), *papers.values()]), 30, (moved, refusals, papers))

    def step(self, rng):
        """Makes one random call."""
        slots, user = self.plain.slots, rng.choice((1, 1, 1, 2))
        handle = rng.randint(1, slots)
        name = rng.choice(["take"] * 4 + ["give_back"] * 3 + ["read", "write", "write", "pin", "unpin", "compact", "pass"])
        if name == "take":
            size = rng.choice((1, 1, 2, 3, 5, 9))
            told = self.play("take", size, user)
            if is_refusal(told):
                args = (self.ground.image(), self.plain.start, self.plain.size)
                self.assertIs(is_no_parcel(*args, told[1][0], size), True)
            return told
        if name in ("read", "write"):
            rest = (rng.randrange(65536),) if name == "write" else ()
            return self.play(name, handle, rng.randrange(6), *rest, user)
        if name == "compact":
            return self.play("compact") if rng.random() < 0.3 else None
        if name == "pass":
            places = [span[0] + k for span in self.handles.handed() for k in range(span[1])]
            if places and rng.random() < 0.5:
                self.pass_on(rng.choice(places), user)
            return None
        return self.play(name, handle, user)

    def finish(self):
        """Gives all parcels back, and looks at the image."""
        for handle in sorted(self.plain.used):
            start, size = self.plain.span_at(handle)
            for place in range(start, start + size):
                self.pass_on(place, 1)
            self.play("give_back", handle, 1)
        self.assertEqual(self.ground.image(), self.new)

    def test_deeds(self):
        self.make(24, 3)
        for size in (2, 3, 2):
            self.handles.take(size, 1)
        self.handles.give_back(1, 1)
        before = state(self.ground)
        self.ground.begin()
        self.assertEqual(self.handles.compact(), 9)
        self.assertEqual(self.handles.take(4, 2), 1)
        self.handles.pin(1, 2)
        self.assertEqual(told_by(self.handles.take, 1, 2), ("NoRoom", (("table", 3),)))
        self.assertEqual(told_by(self.handles.give_back, 1, 1)[0], "NotHeld")
        self.assertEqual(self.ground.depth, 1)
        self.ground.cancel()
        self.assertEqual(state(self.ground), before)

    def test_budget(self):
        self.make(24, 3)
        self.handles.take(2, 1)
        self.handles.take(3, 1)
        self.handles.write(2, 0, 9, 1)
        self.handles.give_back(1, 1)
        before = self.ground.image()
        calls = (
            ("take", 7, 2), ("compact",), ("give_back", 2, 1), ("pin", 2, 1), ("write", 2, 1, 5, 1))
        for name, *values in calls:
            copy = ground_of(before)
            outcome(getattr(self.maker(copy), name), *values)
            cost = copy.spent
            self.assertGreater(cost, 0)
            self.ground.budget = cost - 1
            told = told_by(getattr(self.handles, name), *values)
            self.assertEqual(told, ("Cut", (cost, cost - 1)))
            self.assertEqual([self.ground.image(), self.ground.budget, self.ground.depth], [before, cost - 1, 0])
        blank = Ground(2, 16)
        blank.pass_on(0, 20, 0, 26)
        blank.budget = 0
        self.assertEqual(told_by(start_handles, blank, 0, 20, 4), ("Cut", (1, 0)))

    def test_equal_handles_over_one_bed(self):
        self.make(30, 4)
        other = Handles(self.ground, 0, 30)
        self.assertEqual([self.handles.take(3, 1), other.take(2, 2)], [1, 2])
        self.handles.pin(2, 2)
        self.assertEqual(other.layout(), (5, 30, [(5, 5, False), (10, 4, True)]))
        copy = Handles(ground_of(self.ground.image()), 0, 30)
        self.assertEqual([copy.layout(), copy.take(1, 3)], [other.layout(), self.handles.take(1, 3)])

    def test_block_of_the_buddies(self):
        ground = Ground(24, 16)
        buddies = start_buddies(ground, [(16, 0, 0)])
        before = ground.image()
        start, size = buddies.take(2, 77, 26)
        handles = start_handles(ground, start, size, 9)
        for size in (9, 8, 7):
            handles.take(size, 3)
        handles.give_back(2, 3)
        self.assertEqual(handles.compact(), 9)
        handles.give_back(1, 3)
        handles.give_back(3, 3)
        # The table and the number of handles stay until the bed is given back.
        buddies.give_back(start, 26)
        self.assertEqual(ground.image(), before)


del Base

if __name__ == "__main__":
    unittest.main()
