"""Points 49 to 53 and the interface of mapped.py."""

import random
import time
import unittest

from allgivenback.buddies import Buddies, is_no_block, start_buddies
from allgivenback.ground import Ground, ground_of
from allgivenback.layout import read_rows
from allgivenback.mapped import Mapped
from tests.helpers import check_wrong, is_refusal, no_integer_in, outcome, play, state, told_by
from tests.models import PlainMap
from tests.space_models import PlainMapped
from tests.test_drawers import NO_USERS
from tests.test_images import NO_WORDS
from tests.test_slabs import NO_BUDDIES

LOOKS = ("table", "stretches")


class Base(unittest.TestCase):
    def make(self, count=24, width=16, fill=0, zones=((10, 0, 0), (6, 0, 0)), label=50, **named):
        """Makes a ground of so many pages with a map, spaces over it and their plain model."""
        self.ground = Ground(count, width, fill=fill)
        start_buddies(self.ground, zones)
        self.maker = lambda ground: Mapped(Buddies(ground), label, **named)
        self.spaces = self.maker(self.ground)
        self.plain = PlainMapped(PlainMap(count, width, fill, zones), label, **named)
        self.new = self.ground.image()

    def play(self, *values, **named):
        told = play(self, self.maker, self.ground, self.plain, *values, **named)
        spaces = self.maker(self.ground)
        for user in range(1, 9):
            self.assertEqual(spaces.table(user), self.plain.table(user))
        return told

    def look(self):
        """Compares all that only looks."""
        for user in range(1, 9):
            self.assertEqual(self.spaces.stretches(user), self.plain.stretches(user))
        for page in range(self.ground.pages):
            self.assertEqual(self.spaces.namers(page), self.plain.namers(page))

    def map(self, user, count):
        """Reserves and commits pages and returns the start."""
        start, size = self.play("reserve", user, count)
        self.assertEqual(size, count * self.ground.width)
        self.assertIsNone(self.play("commit_pages", user, start, count))
        return start

    def label_of(self, page):
        """The label in the map row of a page."""
        return read_rows(self.ground.image())[page][1]


class MakingTest(Base):
    def test_wrong(self):
        ground = Ground(40, 16)
        buddies = start_buddies(ground, [(4, 0, 0), (4, 0, 1), (4, 0, 0), (4, 0, 3)])
        before = state(ground)
        good = {"buddies": buddies, "label": 900, "pages": 32, "slow": 3, "zone": 4}
        bad = {
            "buddies": NO_BUDDIES, "label": no_integer_in(1, 900), "pages": no_integer_in(1, 32),
            "slow": no_integer_in(0, 4) + (2, 4), "zone": no_integer_in(1, 4)}
        check_wrong(self, Mapped, good, bad, named=("pages", "slow", "zone"))
        for slow in (0, 1, 3):
            self.assertIsNone(told_by(Mapped, buddies, 1, slow=slow))
        for slow in (2, 4, 5, True, None, 1.0):
            self.assertEqual(told_by(Mapped, buddies, 1, slow=slow), ("BadValue", ("slow",)))
        self.assertEqual(state(ground), before)

    def test_sizes_of_tables(self):
        for width, pages, order in (
                (16, 1, 0), (16, 8, 0), (16, 9, 1), (16, 16, 1), (16, 17, 2), (16, 32, 2), (32, 16, 0), (32, 17, 1),
                (32, 32, 1), (64, 32, 0), (64, 1, 0)):
            self.make(count=40, width=width, zones=((20, 0, 0),), fill=9, pages=pages)
            self.play("reserve", 3, pages)
            blocks = Buddies(self.ground).given()
            self.assertEqual([block[1:] for block in blocks], [(order, 53)])
            start = blocks[0][0] * width
            words = self.ground.image()[2][start:start + width * 2 ** order]
            self.assertEqual(words, (4, 0) * pages + (9,) * (len(words) - 2 * pages))
            self.assertEqual(self.ground.image()[3][start:start + len(words)], (27,) * len(words))

    def test_labels(self):
        for label in (1, 900):
            self.make(label=label, slow=2)
            for user in range(1, 9):
                self.map(user, 1)
            self.play("store", 8, 3, 5)
            self.play("share", 8, 0, 1, 1)
            self.play("put_out", 1, 16, 1)
            self.play("store", 2, 3, 6)
            found = sorted(block[2] for block in Buddies(self.ground).given())
            self.assertEqual(found, list(range(label, label + 10)))
            for user, count in ((1, 2), *[(user, 1) for user in range(2, 9)]):
                self.play("release", user, 0, count)
            self.assertEqual(self.ground.image(), self.new)

    def test_defaults(self):
        self.make()
        self.assertEqual(len(self.spaces.table(1)), 8)
        self.assertEqual(told_by(self.spaces.put_out, 1, 0, 1), ("Unknown", ("slow",)))
        self.play("reserve", 1, 1)
        self.assertEqual(Buddies(self.ground).given()[0][0], self.plain.buddies.front)

    def test_zones(self):
        zones = ((4, 0, 0), (4, 0, 0), (4, 4, 0))
        self.make(count=30, zones=zones, zone=2, slow=3)
        starts = [row[0] for row in self.plain.buddies.zones]
        self.map(1, 2)
        self.play("store", 1, 0, 7)
        # The slow zone keeps back all its pages, but putting out is urgent.
        self.assertEqual(self.play("put_out", 1, 0, 1), 1)
        self.assertEqual(self.play("table", 1)[0], (4, 2, starts[2]))
        self.assertEqual([block[0] for block in Buddies(self.ground).given()], [starts[1], starts[2]])
        self.assertEqual(self.label_of(starts[2]), 59)
        self.assertEqual(self.play("load", 1, 0), 7)
        frame = self.play("table", 1)[0][2]
        self.assertIn(frame, range(starts[1] + 1, starts[1] + 4))
        self.assertEqual(self.label_of(frame), 50)
        # Frames and tables are not urgent.
        self.make(count=30, zones=((4, 4, 0),))
        self.assertEqual(self.play("reserve", 1, 1), ("NoRoom", (((1, "few", 4),),)))
        self.make(count=30, zones=((4, 3, 0),))
        self.map(1, 1)
        self.assertEqual(self.play("store", 1, 0, 7), ("NoRoom", (((1, "few", 3),),)))


class SpaceTest(Base):
    def test_reserve(self):
        self.make()
        self.assertEqual(self.play("reserve", 2, 3), (0, 48))
        self.assertEqual(self.play("reserve", 2, 2), (48, 32))
        self.assertEqual(self.play("reserve", 2, 4), ("NoRoom", (("space", (3, 4)),)))
        self.assertEqual(self.play("reserve", 2, 3), (80, 48))
        self.assertEqual(self.play("reserve", 2, 8), ("NoRoom", (("space", (7,)),)))
        self.assertEqual(self.play("reserve", 2, 1), ("NoRoom", (("space", tuple(range(8))),)))
        self.play("release", 2, 32, 2)
        self.assertEqual(self.play("reserve", 2, 3), ("NoRoom", (("space", (1, 4, 7)),)))
        self.assertEqual(self.play("reserve", 2, 2), (32, 32))
        self.look()

    def test_states_and_stretches(self):
        self.make(slow=2)
        self.play("reserve", 1, 7)
        self.assertEqual(self.play("stretches", 1), [(0, 112, "reserved", 0)])
        self.play("commit_pages", 1, 16, 4)
        self.assertEqual(self.play("table", 1), [(1, 0, 0)] + [(2, 2, 0)] * 4 + [(1, 0, 0)] * 2 + [(0, 0, 0)])
        self.play("protect", 1, 32, 2, 1)
        self.play("store", 1, 16, 5)
        self.play("store", 1, 64, 6)
        self.play("put_out", 1, 64, 1)
        self.assertEqual(self.play("stretches", 1), [
            (0, 16, "reserved", 0), (16, 16, "committed", 2), (32, 32, "committed", 1), (64, 16, "committed", 2),
            (80, 32, "reserved", 0)])
        self.play("protect", 1, 32, 2, 2)
        # Reserved pages that other calls reserved join the stretch beside them.
        self.play("reserve", 1, 1)
        self.assertEqual(self.play("stretches", 1), [
            (0, 16, "reserved", 0), (16, 64, "committed", 2), (80, 48, "reserved", 0)])
        self.play("commit_pages", 1, 0, 8)
        self.assertEqual(self.play("stretches", 1), [(0, 128, "committed", 2)])
        self.play("protect", 1, 0, 8, 0)
        self.assertEqual(self.play("stretches", 1), [(0, 128, "committed", 0)])
        self.play("release", 1, 0, 8)
        self.assertEqual(self.play("stretches", 1), [])
        self.assertEqual(self.ground.image(), self.new)

    def test_committed_pages_stay(self):
        self.make(slow=2)
        self.map(1, 4)
        self.play("protect", 1, 16, 1, 1)
        self.play("store", 1, 32, 9)
        self.play("store", 1, 48, 8)
        self.play("put_out", 1, 48, 1)
        before = self.play("table", 1)
        self.play("commit_pages", 1, 0, 4)
        self.assertEqual(self.play("table", 1), before)
        self.assertEqual([row[0] for row in before[:4]], [2, 2, 3, 4])

    def test_faults_of_ranges(self):
        self.make(slow=2)
        calls = (
            ("commit_pages", ()), ("protect", (1,)), ("release", ()), ("share", (2,)), ("put_out", ()))
        for name, rest in calls:
            self.assertEqual(self.play(name, 1, 32, 2, *rest), ("Fault", ("unmapped", 32)))
        self.play("reserve", 1, 3)
        for name, rest in calls:
            told = self.play(name, 1, 32, 2, *rest)
            kind, place = ("unmapped", 48) if name in ("commit_pages", "release") else ("reserved", 32)
            self.assertEqual(told, ("Fault", (kind, place)))
        self.play("commit_pages", 1, 16, 1)
        for name, rest in calls[1:2] + calls[3:]:
            self.assertEqual(self.play(name, 1, 16, 3, *rest), ("Fault", ("reserved", 32)))
            self.assertEqual(self.play(name, 1, 0, 8, *rest), ("Fault", ("reserved", 0)))
            self.assertEqual(self.play(name, 1, 64, 1, *rest), ("Fault", ("unmapped", 64)))
        self.assertEqual(self.play("release", 1, 0, 3), None)
        self.assertEqual(self.ground.image(), self.new)

    def test_slow_before_faults(self):
        self.make()
        self.assertEqual(self.play("put_out", 1, 0, 8), ("Unknown", ("slow",)))
        self.map(1, 1)
        self.assertEqual(self.play("put_out", 1, 0, 1), ("Unknown", ("slow",)))

    def test_faults_of_places(self):
        self.make(fill=3)
        for name, rest in (("load", ()), ("store", (5,))):
            self.assertEqual(self.play(name, 1, 37, *rest), ("Fault", ("unmapped", 37)))
        self.play("reserve", 1, 4)
        self.assertEqual(self.play("load", 1, 37), ("Fault", ("reserved", 37)))
        self.assertEqual(self.play("store", 1, 37, 1), ("Fault", ("reserved", 37)))
        self.assertEqual(self.play("load", 1, 127), ("Fault", ("unmapped", 127)))
        self.play("commit_pages", 1, 0, 4)
        self.play("protect", 1, 16, 1, 1)
        self.play("protect", 1, 32, 1, 0)
        self.assertEqual(self.play("load", 1, 15), 3)
        self.assertEqual(self.play("load", 1, 16), 3)
        self.assertEqual(self.play("store", 1, 31, 1), ("Fault", ("denied", 31)))
        self.assertEqual(self.play("load", 1, 47), ("Fault", ("denied", 47)))
        self.assertEqual(self.play("store", 1, 32, 1), ("Fault", ("denied", 32)))
        self.assertIsNone(self.play("store", 1, 15, 65535))
        self.assertEqual(self.play("load", 1, 15), 65535)
        self.assertEqual(self.play("load", 2, 15), ("Fault", ("unmapped", 15)))

    def test_one_page(self):
        self.make(pages=1)
        self.assertEqual(self.play("reserve", 8, 1), (0, 16))
        self.assertEqual(self.play("reserve", 8, 1), ("NoRoom", (("space", (0,)),)))
        self.play("commit_pages", 8, 0, 1)
        self.play("store", 8, 15, 4)
        self.assertEqual(self.play("share", 8, 0, 1, 7), (0, 16))
        self.play("release", 8, 0, 1)
        self.assertEqual(self.play("load", 7, 15), 4)
        self.play("release", 7, 0, 1)
        self.assertEqual(self.ground.image(), self.new)


class FrameTest(Base):
    def test_first_store_takes_a_frame(self):
        self.make(fill=7)
        self.map(1, 2)
        count = len(Buddies(self.ground).given())
        self.assertEqual(self.play("load", 1, 20), 7)
        self.assertEqual(len(Buddies(self.ground).given()), count)
        # Also a store of the fill takes a frame.
        self.play("store", 1, 20, 7)
        self.assertEqual(len(Buddies(self.ground).given(50)), 1)
        page = self.play("table", 1)[1][2]
        self.assertEqual(self.play("namers", page), [(1, 1)])
        self.assertEqual(self.ground.held_by(27).total, 32)
        self.play("store", 1, 21, 8)
        self.assertEqual([self.play("load", 1, place) for place in (16, 20, 21, 31)], [7, 7, 8, 7])

    def test_share_and_store(self):
        self.make(slow=2)
        self.map(1, 3)
        self.play("store", 1, 0, 11)
        self.play("store", 1, 17, 12)
        self.play("protect", 1, 16, 1, 1)
        self.assertEqual(self.play("share", 1, 0, 3, 2), (0, 48))
        self.assertEqual(self.play("table", 1), self.play("table", 2))
        first, second = self.play("table", 1)[0][2], self.play("table", 1)[1][2]
        self.assertEqual([self.play("namers", first), self.play("namers", second)], [
            [(1, 0), (2, 0)], [(1, 1), (2, 1)]])
        self.assertEqual(self.play("store", 2, 17, 5), ("Fault", ("denied", 17)))
        self.play("protect", 2, 16, 1, 2)
        # Also a store of the word that is there already takes a frame of its own.
        self.play("store", 2, 17, 12)
        self.assertEqual(self.play("namers", second), [(1, 1)])
        self.assertNotEqual(self.play("table", 2)[1][2], second)
        self.play("store", 1, 3, 99)
        self.assertEqual([self.play("load", 1, 3), self.play("load", 2, 3), self.play("load", 2, 0)], [99, 0, 11])
        # A page in state 2 is shared as such.
        self.play("store", 2, 40, 6)
        self.assertEqual([self.play("load", 1, 40), self.play("load", 2, 40)], [0, 6])
        self.look()
        self.play("release", 1, 0, 3)
        self.play("release", 2, 0, 3)
        self.assertEqual(self.ground.image(), self.new)

    def test_shared_page_put_out_and_fetched(self):
        self.make(slow=2)
        self.map(1, 1)
        self.play("store", 1, 4, 44)
        self.play("share", 1, 0, 1, 3)
        self.play("share", 3, 0, 1, 1)
        self.assertEqual(self.play("namers", self.play("table", 1)[0][2]), [(1, 0), (1, 1), (3, 0)])
        self.assertEqual(self.play("put_out", 3, 0, 1), 1)
        self.assertEqual(self.play("put_out", 1, 0, 2), 0)
        out = self.play("table", 1)[0][2]
        self.assertEqual(self.play("table", 1)[:2], [(4, 2, out)] * 2)
        self.assertEqual(self.play("namers", out), [(1, 0), (1, 1), (3, 0)])
        self.play("protect", 3, 0, 1, 1)
        self.assertEqual(self.play("load", 3, 4), 44)
        frame = self.play("table", 3)[0][2]
        self.assertEqual(self.play("table", 3)[0], (3, 1, frame))
        self.assertEqual(self.play("table", 1)[:2], [(3, 2, frame)] * 2)
        # Of two virtual pages that name one frame the first puts it out for both.
        self.assertEqual(self.play("put_out", 1, 0, 2), 1)
        self.play("store", 1, 20, 44)
        rows = self.play("table", 1)
        self.assertEqual([rows[0][0], rows[1][0], rows[0][2] == rows[1][2]], [3, 3, False])
        self.assertEqual([block[2] for block in Buddies(self.ground).given(59)], [])
        for user, count in ((1, 2), (3, 1)):
            self.play("release", user, 0, count)
        self.assertEqual(self.ground.image(), self.new)

    def test_release_of_shared_pages(self):
        self.make(slow=2)
        self.map(1, 2)
        self.play("store", 1, 0, 1)
        self.play("store", 1, 16, 2)
        self.play("put_out", 1, 16, 1)
        self.play("share", 1, 0, 2, 8)
        self.play("release", 1, 0, 2)
        self.assertEqual([self.play("load", 8, 0), self.play("load", 8, 16)], [1, 2])
        self.assertEqual(self.play("release", 8, 0, 1), None)
        self.assertEqual(len(Buddies(self.ground).given(50)), 1)
        self.play("release", 8, 16, 1)
        self.assertEqual(self.ground.image(), self.new)

    def test_both_names_released_at_once(self):
        self.make()
        self.map(1, 1)
        self.play("store", 1, 0, 1)
        self.play("share", 1, 0, 1, 2)
        self.play("share", 2, 0, 1, 1)
        self.play("release", 2, 0, 1)
        self.play("release", 1, 0, 2)
        self.assertEqual(self.ground.image(), self.new)

    def test_share_refused(self):
        self.make(zones=((2, 0, 0),))
        self.map(1, 2)
        self.play("store", 1, 0, 5)
        # There is no page left for a table.
        told = self.play("share", 1, 0, 1, 2)
        self.assertEqual(told, ("NoRoom", (((1, "few", 0),),)))
        self.assertIs(is_no_block(self.ground.image(), 0, told[1][0]), True)
        self.assertEqual(self.play("store", 1, 16, 5), ("NoRoom", (((1, "few", 0),),)))
        self.make()
        self.map(1, 3)
        self.map(2, 7)
        self.assertEqual(self.play("share", 1, 0, 3, 2), ("NoRoom", (("space", (2, 5)),)))
        self.assertEqual(self.play("share", 1, 0, 1, 2), (112, 16))

    def test_refusals_in_the_middle(self):
        # Two frames but one slow page: the second frame finds no room, and the first one stays, too.
        self.make(zones=((10, 0, 0), (1, 0, 0)), slow=2)
        self.map(1, 3)
        for page in range(3):
            self.play("store", 1, 16 * page, page + 1)
        first = self.plain.buddies.zones[1][0]
        told = self.play("put_out", 1, 0, 2)
        self.assertEqual(told, ("NoRoom", (((2, "few", 0),),)))
        # The paper is right for the ground as the first step left it.
        self.assertIs(is_no_block(self.ground.image(), 0, told[1][0], zone=2, urgent=True), False)
        self.assertEqual([row[0] for row in self.play("table", 1)[:3]], [3, 3, 3])
        self.assertEqual(self.play("put_out", 1, 16, 1), 1)
        self.assertEqual(self.play("table", 1)[1], (4, 2, first))
        self.assertIs(is_no_block(self.ground.image(), 0, told[1][0], zone=2, urgent=True), True)

    def test_store_to_a_shared_page_that_is_out(self):
        # One frame can be fetched back, but no second one can be taken.
        self.make(zones=((3, 0, 0), (2, 0, 0)), slow=2)
        self.map(1, 1)
        self.play("store", 1, 0, 8)
        self.play("share", 1, 0, 1, 2)
        self.play("put_out", 1, 0, 1)
        told = self.play("store", 1, 1, 9)
        self.assertEqual(told, ("NoRoom", (((1, "few", 0),),)))
        self.assertEqual(self.play("table", 1)[0][0], 4)
        self.play("load", 2, 0)
        self.assertEqual(self.play("table", 1)[0][0], 3)
        self.assertIs(is_no_block(self.ground.image(), 0, told[1][0]), True)
        self.play("release", 2, 0, 1)
        self.assertIsNone(self.play("store", 1, 1, 9))
        self.assertEqual([self.play("load", 1, 0), self.play("load", 1, 1)], [8, 9])

    def next_place(self, zone):
        """The first place of the page that the zone gives out next."""
        return Buddies(ground_of(self.ground.image())).take(0, 999, 27, zone=zone, urgent=True)[0]

    def poke(self, place, word):
        self.ground.poke(place, word)
        self.plain.buddies.poke(place, word)

    def test_broken_blocks(self):
        self.make(slow=2, fill=3)
        place = self.next_place(1)
        self.poke(place + 5, 9)
        self.poke(place + 3, 8)
        self.assertEqual(self.play("reserve", 1, 1), ("Broken", (place + 3, 8, 3)))
        self.poke(place + 3, 3)
        self.poke(place + 5, 3)
        self.map(1, 1)
        place = self.next_place(1)
        self.poke(place, 9)
        self.assertEqual(self.play("store", 1, 0, 4), ("Broken", (place, 9, 3)))
        self.poke(place, 3)
        self.play("store", 1, 0, 4)
        place = self.next_place(2)
        self.poke(place + 15, 9)
        self.assertEqual(self.play("put_out", 1, 0, 1), ("Broken", (place + 15, 9, 3)))
        self.poke(place + 15, 3)
        self.play("put_out", 1, 0, 1)
        place = self.next_place(1)
        self.poke(place + 1, 9)
        self.assertEqual(self.play("load", 1, 0), ("Broken", (place + 1, 9, 3)))
        # Faults come first, and then the table of the taker finds the word.
        self.assertEqual(self.play("share", 1, 0, 2, 2), ("Fault", ("unmapped", 16)))
        self.assertEqual(self.play("share", 1, 0, 1, 2), ("Broken", (place + 1, 9, 3)))

    def test_words_move_whole(self):
        for width in (16, 32, 64):
            self.make(count=30, width=width, fill=9, slow=2)
            self.map(1, 2)
            for place in range(2 * width):
                self.play("store", 1, place, 1000 + place)
            self.play("share", 1, width, 1, 2)
            self.play("put_out", 1, 0, 2)
            self.assertEqual([self.play("load", 2, k) for k in range(width)], [1000 + width + k for k in range(width)])
            self.play("store", 2, 0, 5)
            self.assertEqual([self.play("load", 1, k) for k in range(2 * width)], [1000 + k for k in range(2 * width)])


class CheckTest(Base):
    def test_wrong(self):
        self.make(slow=2)
        self.map(1, 8)
        self.play("store", 1, 0, 5)
        before = state(self.ground)
        starts = no_integer_in(0, 127) + (1, 15, 17, 120, 127)
        check_wrong(self, self.spaces.reserve, {"holder": 1, "count": 8}, {
            "holder": NO_USERS, "count": no_integer_in(1, 8)})
        for start, most in ((0, 8), (16, 7), (112, 1)):
            counts = no_integer_in(1, most)
            good = {"holder": 1, "start": start, "count": most}
            bad = {"holder": NO_USERS, "start": starts, "count": counts}
            for call in (self.spaces.commit_pages, self.spaces.release, self.spaces.put_out):
                check_wrong(self, call, good, bad)
            check_wrong(self, self.spaces.protect, {**good, "rights": 2}, {**bad, "rights": no_integer_in(0, 2)})
            for giver in (1, 5):
                check_wrong(self, self.spaces.share, {
                    "giver": giver, "start": start, "count": most, "taker": 3}, {
                    "giver": NO_USERS, "start": starts, "count": counts, "taker": NO_USERS + (giver,)})
        for place in (0, 127):
            check_wrong(self, self.spaces.load, {"holder": 1, "place": place}, {
                "holder": NO_USERS, "place": no_integer_in(0, 127)})
            check_wrong(self, self.spaces.store, {"holder": 1, "place": place, "word": 65535}, {
                "holder": NO_USERS, "place": no_integer_in(0, 127), "word": NO_WORDS})
        for name in LOOKS:
            check_wrong(self, getattr(self.spaces, name), {"holder": 1}, {"holder": NO_USERS})
        check_wrong(self, self.spaces.namers, {"page": 23}, {"page": no_integer_in(0, 23)})
        self.assertEqual(state(self.ground), before)

    def test_wrong_before_all_else(self):
        self.make()
        self.assertEqual(told_by(self.spaces.put_out, 1, 0, 9), ("BadValue", ("count",)))
        self.assertEqual(told_by(self.spaces.store, 1, 0, 65536), ("BadValue", ("word",)))
        self.assertEqual(told_by(self.spaces.share, 1, 0, 1, 1), ("BadValue", ("taker",)))
        self.assertEqual(told_by(self.spaces.protect, 1, 16, 1, 3), ("BadValue", ("rights",)))

    def test_lists_are_new(self):
        self.make()
        self.map(1, 2)
        self.play("store", 1, 0, 5)
        page = self.spaces.table(1)[0][2]
        for call, value in ((self.spaces.table, 1), (self.spaces.stretches, 1), (self.spaces.namers, page),
                            (self.spaces.table, 2)):
            before = call(value)
            call(value).append(0)
            self.assertEqual(call(value), before)

    def test_namers_of_other_pages(self):
        self.make()
        self.map(1, 2)
        for page in range(24):
            self.assertEqual(self.play("namers", page), [])
        self.assertEqual(self.spaces.namers(0), [])


class RandomTest(Base):
    def test_against_the_plain_model(self):
        refusals = {}
        for seed in range(14):
            rng = random.Random(seed)
            self.make(
                count=rng.choice((30, 40)), width=rng.choice((16, 32)), fill=rng.choice((0, 7)),
                zones=rng.choice((((8, 0, 0), (4, 2, 0)), ((14, 1, 0), (6, 0, 0)), ((4, 0, 0), (3, 0, 0)))),
                slow=rng.choice((0, 2, 2, 2, 1)))
            for step in range(120):
                told = self.step(rng)
                if is_refusal(told):
                    refusals[told[0]] = refusals.get(told[0], 0) + 1
                if step % 20 == 0:
                    self.look()
            self.finish()
        self.assertEqual(sorted(refusals), ["Fault", "NoRoom", "Unknown"])
        self.assertGreater(min(refusals.values()), 15, refusals)

    def step(self, rng):
        """Makes one random call."""
        width, user = self.ground.width, rng.randint(1, 3)
        spans = self.plain.stretches(user)
        start, size = rng.choice(spans)[:2] if spans and rng.random() < 0.9 else (width * rng.randrange(8), width)
        count = rng.randint(1, size // width)
        start += width * rng.randrange(size // width - count + 1)
        name = rng.choice((
            "reserve", "commit_pages", "commit_pages", "protect", "release", "share", "share", "put_out", "put_out",
            "load", "load", "store", "store", "store", "store"))
        if name == "reserve":
            return self.play(name, user, rng.choice((1, 2, 3, 8)))
        if name in ("load", "store"):
            place = start + rng.randrange(width * count)
            return self.play(name, user, place, *((rng.randrange(65536),) if name == "store" else ()))
        rest = ()
        if name == "share":
            rest = (user % 3 + 1,)
        elif name == "protect":
            rest = (rng.choice((0, 1, 2, 2, 2)),)
        return self.play(name, user, start, count, *rest)

    def finish(self):
        """Releases everything and looks at the image."""
        for user in range(1, 9):
            for start, size, _, _ in self.plain.stretches(user):
                self.play("release", user, start, size // self.ground.width)
        self.assertEqual(self.ground.image(), self.new)

    def test_deeds(self):
        self.make(slow=2)
        self.map(1, 3)
        self.play("store", 1, 0, 5)
        before = state(self.ground)
        self.ground.begin()
        self.spaces.share(1, 0, 3, 2)
        self.spaces.put_out(2, 0, 1)
        self.spaces.store(1, 0, 6)
        self.assertEqual(told_by(self.spaces.reserve, 1, 8)[0], "NoRoom")
        self.spaces.release(2, 0, 3)
        self.assertEqual(self.ground.depth, 1)
        self.ground.cancel()
        self.assertEqual(state(self.ground), before)

    def test_budget(self):
        self.make(slow=2)
        self.map(1, 3)
        self.play("store", 1, 0, 5)
        self.play("share", 1, 0, 1, 2)
        self.play("store", 1, 16, 5)
        self.play("put_out", 1, 16, 1)
        before = self.ground.image()
        calls = (
            ("reserve", 1, 2), ("reserve", 4, 2), ("protect", 1, 0, 2, 1), ("release", 1, 0, 3),
            ("share", 1, 0, 2, 3), ("put_out", 1, 0, 2), ("load", 1, 16), ("store", 1, 0, 7), ("store", 1, 40, 7))
        for name, *values in calls:
            copy = ground_of(before)
            outcome(getattr(self.maker(copy), name), *values)
            cost = copy.spent
            self.assertGreater(cost, 0)
            self.ground.budget = cost - 1
            self.assertEqual(told_by(getattr(self.spaces, name), *values), ("Cut", (cost, cost - 1)))
            self.assertEqual([self.ground.image(), self.ground.budget, self.ground.depth], [before, cost - 1, 0])
            self.ground.budget = cost
            self.ground.begin()
            getattr(self.spaces, name)(*values)
            self.ground.cancel()

    def test_equal_spaces_over_one_map(self):
        self.make(slow=2)
        other = self.maker(self.ground)
        self.map(1, 2)
        other.store(1, 3, 77)
        self.assertEqual(self.spaces.load(1, 3), 77)
        other.share(1, 0, 1, 5)
        copy = self.maker(ground_of(self.ground.image()))
        self.assertEqual([copy.table(5), copy.load(5, 3)], [self.spaces.table(5), 77])
        # Spaces with another label know nothing of it.
        self.assertEqual(Mapped(Buddies(self.ground), 60).table(1), [(0, 0, 0)] * 8)

    def test_without_delay(self):
        ground = Ground(256, 64)
        spaces = Mapped(start_buddies(ground, ((140, 0, 0), (90, 0, 0))), 1, pages=32, slow=2)
        new = ground.image()
        started = time.monotonic()
        for user in (1, 2):
            spaces.reserve(user, 32)
            spaces.commit_pages(user, 0, 32)
            for page in range(32):
                spaces.store(user, 64 * page + 63, page + 1)
        spaces.release(2, 0, 32)
        for user in range(2, 9):
            spaces.share(1, 0, 32, user)
        self.assertEqual(spaces.put_out(8, 0, 32), 32)
        self.assertEqual([spaces.load(5, 64 * page + 63) for page in range(32)], list(range(1, 33)))
        for user in range(1, 9):
            spaces.store(user, 0, user)
        for user in range(1, 9):
            self.assertEqual(spaces.load(user, 0), user)
            spaces.release(user, 0, 32)
        self.assertEqual(ground.image(), new)
        self.assertLess(time.monotonic() - started, 10)


del Base

if __name__ == "__main__":
    unittest.main()
