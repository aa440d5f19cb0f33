"""Points 20 to 25 and the interface of buddies.py."""

import itertools
import random
import unittest

from allgivenback.basics import NoRoom
from allgivenback.buddies import Buddies, is_no_block, start_buddies
from allgivenback.ground import Ground, ground_of
from allgivenback.images import is_image
from allgivenback.layout import has_map, read_rows, read_zones
from allgivenback.places import Places
from tests.helpers import HUGE, NO_INTEGERS, ODD_VALUES, check_wrong, no_integer_in, outcome, state, told_by
from tests.test_covers import plain_cover, plain_windows
from tests.test_ground import NO_OWNERS
from tests.test_images import NO_WORDS
from tests.test_layout import NO_MAPS, plain_map_pages

NO_FLAGS = (0, 1, None, "True", "", (), [True], (True,), 1.0, HUGE)
NO_GROUNDS = NO_INTEGERS + (0, Ground, Places(), Ground(12, 16).image())


class PlainBuddies:
    """A slow model: the given blocks, their notes and the words of their places; all else is worked out anew."""

    def __init__(self, pages, width, fill, zones):
        self.pages, self.width, self.fill = pages, width, fill
        self.front = first = plain_map_pages(pages, width, len(zones))
        self.zones = []
        for count, kept, behind in zones:
            self.zones.append((first, count, kept, behind))
            first += count
        self.blocks = {}
        self.notes = {}
        self.words = {}

    def free(self, zone):
        """The set of the free pages of a zone."""
        first, count, _, _ = self.zones[zone - 1]
        given = {page + k for page, (order, _, _) in self.blocks.items() for k in range(2 ** order)}
        return set(range(first, first + count)) - given

    def free_blocks(self, zone):
        """The greatest aligned runs of free pages, as tuples (order, page)."""
        free, blocks = self.free(zone), []
        while free:
            page = min(free)
            order = max(
                k for k in range(9) if page % 2 ** k == 0 and all(page + n in free for n in range(2 ** k)))
            blocks.append((order, page))
            free -= set(range(page, page + 2 ** order))
        return blocks

    def walk(self):
        """All blocks as Buddies.walk tells them."""
        rows = [(page, order, label) for page, (order, label, _) in self.blocks.items()]
        for zone in range(1, len(self.zones) + 1):
            rows += [(page, order, 0) for order, page in self.free_blocks(zone)]
        return sorted(rows)

    def image(self):
        """The image of the ground, from the points 20 and 21."""
        words = [4711, len(self.zones)] + [word for row in self.zones for word in row]
        codes = {page: (21 if label else 1) + order for page, order, label in self.walk()}
        for page in range(self.pages):
            label = self.blocks[page][1] if page in self.blocks else 0
            words += [codes.get(page, 0), label, *self.notes.get(page, (0, 0))]
        top = self.pages * self.width
        words += [self.fill] * (top - len(words))
        holders = [21] * (self.front * self.width) + [0] * (top - self.front * self.width)
        for page, (order, _, keeper) in self.blocks.items():
            start, size = page * self.width, self.width * 2 ** order
            holders[start:start + size] = [keeper] * size
        for place, word in self.words.items():
            words[place] = word
        return (self.width, self.fill, tuple(words), tuple(holders))

    def paper(self, order, zone, urgent):
        """The paper of point 24, or the block (order, page) that serves."""
        rows = []
        while zone:
            first, count, kept, behind = self.zones[zone - 1]
            free = self.free(zone)
            fitting = [block for block in self.free_blocks(zone) if block[0] >= order]
            if len(free) < 2 ** order + (0 if urgent else kept):
                rows.append((zone, "few", len(free)))
            elif fitting:
                return min(fitting)
            else:
                rows.append((zone, "held", self.cover(first, first + count, 2 ** order, free)))
            zone = behind
        return tuple(rows)

    def cover(self, low, high, size, free):
        """The least cover of point 11 by its own words."""
        taken = []
        for start in plain_windows(low, high, size, size):
            if not any(start <= page < start + size for page in taken):
                taken.append(max(page for page in range(start, start + size) if page not in free))
        return tuple(taken)

    def take(self, order, label, keeper, zone, urgent):
        found = self.paper(order, zone, urgent)
        if not found or isinstance(found[0], tuple):
            return ("NoRoom", (found,))
        page = found[1]
        start, size = page * self.width, self.width * 2 ** order
        for place in range(start, start + size):
            if place in self.words:
                return ("Broken", (place, self.words[place], self.fill))
        self.blocks[page] = (order, label, keeper)
        return (start, size)

    def give_back(self, start, keeper):
        page = start // self.width
        if start % self.width or page not in self.blocks:
            return ("Unknown", ("start",))
        order, _, owner = self.blocks[page]
        if keeper != owner:
            return ("NotHeld", (start, owner))
        size = self.width * 2 ** order
        del self.blocks[page]
        for each in range(page, page + 2 ** order):
            self.notes.pop(each, None)
        for place in range(start, start + size):
            self.words.pop(place, None)
        return (start, size)

    def block_at(self, place):
        for page, (order, label, _) in self.blocks.items():
            if page <= place // self.width < page + 2 ** order:
                return (page, order, label)
        return None

    def is_paper(self, order, paper, zone, urgent):
        """The judgement of point 24, for any value."""
        if type(paper) is not tuple:
            return False
        for row in paper:
            if not zone or type(row) is not tuple or len(row) != 3 or type(row[0]) is not int or row[0] != zone:
                return False
            first, count, kept, behind = self.zones[zone - 1]
            free = self.free(zone)
            if row[1] == "few":
                if type(row[2]) is not int or row[2] != len(free) or len(free) >= 2 ** order + (not urgent) * kept:
                    return False
            elif row[1] == "held":
                held = set(range(first, first + count)) - free
                if type(row[2]) is not tuple or not all(type(page) is int for page in row[2]):
                    return False
                if not plain_cover(first, first + count, 2 ** order, held, 2 ** order, row[2]):
                    return False
            else:
                return False
            zone = behind
        return not zone


def bent_papers(paper):
    """Values that differ from a paper at one place."""
    bent = [list(paper), paper + paper[:1], paper[1:], paper[:-1], paper[::-1], (paper,)]
    for at, row in enumerate(paper):
        rows = [list(row), row[:2], row + (0,), row[::-1], (), None, "few", 0]
        rows += [(odd, *row[1:]) for odd in (row[0] - 1, row[0] + 1, HUGE) + NO_INTEGERS]
        rows += [(row[0], odd, row[2]) for odd in ("few", "held", "fe", "few ", "FEW", b"few") + NO_INTEGERS]
        rows += [(*row[:2], odd) for odd in (0, 1, 2, 3, 5, 8, HUGE, (4,), (4, 6), (4, 5, 6, 7)) + NO_INTEGERS]
        if isinstance(row[2], tuple):
            cover = row[2]
            covers = [list(cover), cover[::-1], cover + cover[-1:], cover[1:], cover[:-1], cover + (255,), (0,) + cover]
            covers += [cover[:k] + (odd,) + cover[k + 1:] for k in range(len(cover)) for odd in (
                cover[k] - 1, cover[k] + 1, HUGE) + NO_INTEGERS]
            rows += [(*row[:2], odd) for odd in covers]
        bent += [paper[:at] + (odd,) + paper[at + 1:] for odd in rows]
    return bent


class StartTest(unittest.TestCase):
    def test_example(self):
        buddies = start_buddies(Ground(12, 16), [(8, 0, 0)])
        self.assertEqual(buddies.take(1, 5, 22), (64, 32))
        self.assertEqual(list(buddies.walk()), [(4, 1, 5), (6, 1, 0), (8, 2, 0)])

    def test_words_place_by_place(self):
        for pages, width, zones in (
                (12, 16, [(8, 0, 0)]), (12, 16, ((1, 1, 0),)), (14, 16, ((4, 1, 0), (3, 3, 1))),
                (256, 16, [(190, 3, 0)]), (256, 64, [(100, 0, 0), (39, 39, 0), (50, 1, 2), (50, 50, 3)]),
                (256, 64, [(239, 0, 0)]), (3, 16, [(1, 0, 0)]), (40, 32, [(1, 0, 0), (1, 0, 0), (1, 1, 2), (20, 7, 3)])):
            for fill in (0, 9, 65535):
                ground = Ground(pages, width, fill=fill)
                buddies = start_buddies(ground, zones)
                plain = PlainBuddies(pages, width, fill, zones)
                self.assertIs(type(buddies), Buddies)
                self.assertIs(buddies.ground, ground)
                self.assertEqual(ground.image(), plain.image())
                self.assertEqual(ground.spent, plain.front * width)
                self.assertEqual(ground.depth, 0)
                self.assertIs(has_map(ground.image()), True)
                self.assertEqual(buddies.zone_rows(), plain.zones)
                self.assertEqual(list(buddies.walk()), plain.walk())

    def test_budget(self):
        ground = Ground(12, 16, fill=3, budget=63)
        before = state(ground)
        self.assertEqual(told_by(start_buddies, ground, [(8, 0, 0)]), ("Cut", (64, 63)))
        self.assertEqual(state(ground), before)
        ground.budget = 64
        start_buddies(ground, [(8, 0, 0)])
        self.assertEqual([ground.spent, ground.budget], [64, 0])

    def test_inside_a_deed(self):
        ground = Ground(12, 16, budget=0)
        before = ground.image()
        ground.begin()
        start_buddies(ground, [(8, 0, 0)])
        self.assertEqual(ground.depth, 1)
        ground.cancel()
        self.assertEqual([ground.image(), ground.spent], [before, 0])

    def test_refused_grounds(self):
        ground = Ground(12, 16, fill=3)
        ground.pass_on(100, 2, 0, 5)
        self.refused(ground, ("NotHeld", (100, 5)))
        ground.pass_on(7, 1, 0, 21)
        self.refused(ground, ("NotHeld", (7, 21)))
        ground.poke(100, 8)
        self.refused(ground, ("NotHeld", (7, 21)))
        ground.poke(191, 8)
        self.refused(ground, ("Broken", (191, 8, 3)))
        ground.poke(9, 0)
        self.refused(ground, ("Broken", (9, 0, 3)))
        self.assertEqual(told_by(start_buddies, ground, []), ("BadValue", ("zones",)))

    def refused(self, ground, due):
        """Checks that the ground is refused and stays as it is."""
        before = state(ground)
        self.assertEqual(told_by(start_buddies, ground, [(8, 0, 0)]), due)
        self.assertEqual(state(ground), before)

    def test_started_twice(self):
        ground = Ground(12, 16)
        start_buddies(ground, [(8, 0, 0)])
        self.refused(ground, ("NotHeld", (0, 21)))

    def test_wrong(self):
        rows = ODD_VALUES + ((8, 0, 0), [8, 0, 0], Places(), [(8, 0, 0)] * 5, ((1, 0, 0),) * 5, [(9, 0, 0)])
        rows += tuple([row] for row in (
            [8, 0, 0], (8, 0), (8, 0, 0, 0), (0, 0, 0), (-1, 0, 0), (257, 0, 0), (8, -1, 0), (8, 9, 0), (8, 0, 1),
            (8, 0, -1), (8, 0, HUGE), (HUGE, 0, 0), (8, HUGE, 0), None, (), "abc"))
        for odd in NO_INTEGERS:
            rows += ([(odd, 0, 0)], [(8, odd, 0)], [(8, 0, odd)])
        rows += ([(3, 0, 0), (3, 0, 2)], [(3, 0, 0), (3, 0, 3)], [(3, 0, 2), (3, 0, 0)], [(4, 0, 0), (5, 0, 0)])
        rows += ([(1, 0, 0), (1, 0, 0), [1, 0, 0]], [(1, 0, 0), (1, 0, 1), (1, 0, 3)])
        ground = Ground(12, 16)
        before = state(ground)
        good = {"ground": ground, "zones": [(8, 0, 0)]}
        check_wrong(self, start_buddies, good, {"ground": NO_GROUNDS, "zones": rows})
        self.assertEqual(state(ground), before)
        for pages in (1, 2):
            self.assertEqual(told_by(start_buddies, Ground(pages, 16), [(1, 0, 0)] * 4), ("BadValue", ("zones",)))
        zones = [(3, 0, 0), (4, 4, 1)]
        start_buddies(ground, zones)
        self.assertEqual(zones, [(3, 0, 0), (4, 4, 1)])

    def test_view(self):
        ground = Ground(12, 16)
        check_wrong(self, Buddies, {"ground": start_buddies(Ground(12, 16), [(8, 0, 0)]).ground}, {
            "ground": NO_GROUNDS + (ground, Ground(256, 64))})
        bent = start_buddies(Ground(12, 16), [(8, 0, 0)]).ground
        bent.poke(0, 1)
        self.assertEqual(told_by(Buddies, bent), ("BadValue", ("ground",)))


class TakeTest(unittest.TestCase):
    def setUp(self):
        # The map has 2 + 8 + 160 words on the pages 0 to 10; zone 1 is 11 to 26, zone 2 is 27 to 34.
        self.ground = Ground(40, 16, fill=9)
        self.buddies = start_buddies(self.ground, [(16, 0, 0), (8, 2, 1)])
        self.plain = PlainBuddies(40, 16, 9, [(16, 0, 0), (8, 2, 1)])

    def test_split(self):
        self.assertEqual(list(self.buddies.walk()), [
            (11, 0, 0), (12, 2, 0), (16, 3, 0), (24, 1, 0), (26, 0, 0), (27, 0, 0), (28, 2, 0), (32, 1, 0),
            (34, 0, 0)])
        self.assertEqual(self.buddies.take(0, 7, 1), (11 * 16, 16))
        self.assertEqual(self.buddies.take(0, 7, 1), (26 * 16, 16))
        self.assertEqual(self.buddies.take(0, 7, 1), (24 * 16, 16))
        self.assertEqual(self.buddies.take(1, 999, 28), (12 * 16, 32))
        self.assertEqual(self.buddies.take(2, 1, 18), (16 * 16, 64))
        self.assertEqual(list(self.buddies.walk())[:9], [
            (11, 0, 7), (12, 1, 999), (14, 1, 0), (16, 2, 1), (20, 2, 0), (24, 0, 7), (25, 0, 0), (26, 0, 7),
            (27, 0, 0)])
        self.assertEqual(self.ground.holder_at(19 * 16 + 15), 18)
        self.assertEqual(self.ground.holder_at(20 * 16), 0)

    def test_order_8_is_too_great_for_any_zone(self):
        ground = Ground(256, 64)
        buddies = start_buddies(ground, [(239, 0, 0)])
        self.assertEqual(buddies.take(7, 1, 22), (128 * 64, 128 * 64))
        self.assertEqual(outcome(buddies.take, 8, 1, 22), ("NoRoom", (((1, "few", 111),),)))
        self.assertEqual(outcome(buddies.take, 7, 1, 22), ("NoRoom", (((1, "few", 111),),)))
        buddies.give_back(128 * 64, 22)
        self.assertEqual(outcome(buddies.take, 8, 1, 22), ("NoRoom", (((1, "few", 239),),)))

    def test_kept_and_urgent(self):
        for _ in range(16):
            self.buddies.take(0, 3, 22)
        for _ in range(6):
            self.buddies.take(0, 3, 22, zone=2)
        self.assertEqual(self.buddies.free_pages(2).spans, [(30, 2)])
        due = ("NoRoom", (((2, "few", 2), (1, "few", 0)),))
        self.assertEqual(outcome(self.buddies.take, 0, 3, 22, zone=2), due)
        self.assertEqual(outcome(self.buddies.take, 0, 3, 22), ("NoRoom", (((1, "few", 0),),)))
        self.assertEqual(outcome(self.buddies.take, 2, 3, 22, zone=2, urgent=True), due)
        self.assertEqual(self.buddies.take(0, 3, 22, zone=2, urgent=True), (30 * 16, 16))
        self.assertEqual(self.buddies.take(0, 3, 22, zone=2, urgent=True), (31 * 16, 16))
        self.assertEqual(outcome(self.buddies.take, 0, 3, 22, zone=2, urgent=True), (
            "NoRoom", (((2, "few", 0), (1, "few", 0)),)))

    def test_all_pages_kept(self):
        buddies = start_buddies(Ground(12, 16), [(4, 4, 0), (2, 0, 1)])
        self.assertEqual(outcome(buddies.take, 0, 1, 22), ("NoRoom", (((1, "few", 4),),)))
        self.assertEqual(buddies.take(0, 1, 22, urgent=True), (64, 16))
        self.assertEqual(buddies.take(1, 1, 22, zone=2), (8 * 16, 32))
        self.assertEqual(outcome(buddies.take, 0, 1, 22, zone=2), ("NoRoom", (((2, "few", 0), (1, "few", 3)),)))

    def test_zones_behind_one_another(self):
        buddies = start_buddies(Ground(32, 32), [(2, 0, 0), (2, 0, 1), (2, 0, 2), (2, 0, 1)])
        first = buddies.zone_rows()[0][0]
        takes = [buddies.take(0, 1, 22, zone=4)[0] // 32 - first for _ in range(4)]
        self.assertEqual(takes, [6, 7, 0, 1])
        takes = [buddies.take(0, 1, 22, zone=3)[0] // 32 - first for _ in range(4)]
        self.assertEqual(takes, [4, 5, 2, 3])
        self.assertEqual(
            outcome(buddies.take, 0, 1, 22, zone=3)[1][0], ((3, "few", 0), (2, "few", 0), (1, "few", 0)))

    def hold_zone_2(self):
        """Leaves five pages of zone 2 free, no two of them side by side from an even page on."""
        for _ in range(8):
            self.buddies.take(0, 1, 22, zone=2, urgent=True)
        for page in (27, 29, 30, 32, 34):
            self.buddies.give_back(page * 16, 22)

    def test_held_paper(self):
        self.hold_zone_2()
        for _ in range(16):
            self.buddies.take(0, 1, 22)
        paper = ((2, "held", (28, 31, 33)), (1, "few", 0))
        with self.assertRaises(NoRoom) as caught:
            self.buddies.take(1, 5, 22, zone=2)
        self.assertEqual(caught.exception.paper, paper)
        self.assertIs(is_no_block(self.ground.image(), 1, paper, zone=2), True)
        self.assertIs(is_no_block(self.ground.image(), 0, paper, zone=2), False)
        self.assertIs(is_no_block(self.ground.image(), 1, paper[:1], zone=2), False)
        self.assertEqual(outcome(self.buddies.take, 2, 5, 22, zone=2), (
            "NoRoom", (((2, "few", 5), (1, "few", 0)),)))
        self.assertEqual(outcome(self.buddies.take, 2, 5, 22, zone=2, urgent=True), (
            "NoRoom", (((2, "held", (31,)), (1, "few", 0)),)))

    def test_first_zone_that_can_serve_serves(self):
        self.hold_zone_2()
        self.assertEqual(read_zones(self.ground.image())[1], (27, 8, 2, 1))
        self.assertEqual(self.buddies.take(1, 5, 22, zone=2), (24 * 16, 32))
        self.assertEqual(self.buddies.take(0, 5, 22, zone=2), (27 * 16, 16))

    def test_broken(self):
        self.ground.poke(13 * 16 + 3, 4)
        self.ground.poke(12 * 16 + 5, 3)
        before = state(self.ground)
        self.assertEqual(outcome(self.buddies.take, 2, 1, 22), ("Broken", (12 * 16 + 5, 3, 9)))
        self.assertEqual(state(self.ground), before)
        self.ground.poke(12 * 16 + 5, 9)
        self.assertEqual(outcome(self.buddies.take, 2, 1, 22), ("Broken", (13 * 16 + 3, 4, 9)))
        self.assertEqual(self.buddies.take(1, 1, 22)[0], 24 * 16)
        self.assertEqual(outcome(self.buddies.take, 1, 1, 22), ("Broken", (13 * 16 + 3, 4, 9)))
        # Only the served block is looked at.
        self.ground.poke(13 * 16 + 3, 9)
        self.ground.poke(14 * 16, 4)
        self.assertEqual(self.buddies.take(1, 1, 22)[0], 12 * 16)
        self.assertEqual(outcome(self.buddies.take, 1, 1, 22), ("Broken", (14 * 16, 4, 9)))

    def test_cut(self):
        # The place of a block of one page, its code and its label.
        self.ground.budget = 17
        before = state(self.ground)
        self.assertEqual(outcome(self.buddies.take, 0, 1, 22), ("Cut", (18, 17)))
        self.assertEqual(outcome(self.buddies.take, 1, 1, 22), ("Cut", (34, 17)))
        self.assertEqual(state(self.ground), before)
        self.ground.budget = 18
        self.assertEqual(self.buddies.take(0, 1, 22), (11 * 16, 16))
        self.assertEqual(self.ground.budget, 0)
        before = state(self.ground)
        self.assertEqual(outcome(self.buddies.give_back, 11 * 16, 22), ("Cut", (18, 0)))
        self.assertEqual(outcome(self.buddies.set_note, 11, 1, 0), ("Cut", (1, 0)))
        self.assertEqual(state(self.ground), before)
        self.assertIsNone(self.buddies.set_note(11, 0, 0))

    def test_wrong(self):
        before = state(self.ground)
        bad = {
            "order": no_integer_in(0, 8), "label": no_integer_in(1, 999), "keeper": NO_OWNERS,
            "zone": no_integer_in(1, 2), "urgent": NO_FLAGS}
        for order in (0, 8):
            good = {"order": order, "label": 1, "keeper": 22, "zone": 2, "urgent": False}
            check_wrong(self, self.buddies.take, good, bad, named=("zone", "urgent"))
        self.assertEqual(state(self.ground), before)

    def test_edges(self):
        self.assertEqual(self.buddies.take(0, 1, 1)[1], 16)
        self.assertEqual(self.buddies.take(0, 999, 28)[1], 16)
        for zones in range(1, 5):
            buddies = start_buddies(Ground(40, 32), [(3, 0, 0)] * zones)
            self.assertEqual(told_by(buddies.take, 0, 1, 22, zone=zones + 1), ("BadValue", ("zone",)))
            self.assertEqual(buddies.take(0, 1, 22, zone=zones)[1], 32)


class GiveBackTest(unittest.TestCase):
    def setUp(self):
        self.ground = Ground(12, 16, fill=9)
        self.buddies = start_buddies(self.ground, [(8, 0, 0)])
        self.start = self.ground.image()

    def test_join(self):
        spans = [self.buddies.take(0, 1, 22) for _ in range(8)]
        self.assertEqual([span[0] for span in spans], list(range(64, 192, 16)))
        for start in (64, 96, 128, 160):
            self.assertEqual(self.buddies.give_back(start, 22), (start, 16))
        self.assertEqual([block for block in self.buddies.walk() if not block[2]], [
            (4, 0, 0), (6, 0, 0), (8, 0, 0), (10, 0, 0)])
        self.buddies.give_back(80, 22)
        self.assertEqual(list(self.buddies.walk())[:2], [(4, 1, 0), (6, 0, 0)])
        self.buddies.give_back(176, 22)
        self.buddies.give_back(144, 22)
        self.assertEqual(list(self.buddies.walk()), [(4, 1, 0), (6, 0, 0), (7, 0, 1), (8, 2, 0)])
        self.buddies.give_back(112, 22)
        self.assertEqual(self.ground.image(), self.start)

    def test_no_join_across_zones(self):
        ground = Ground(14, 16)
        # The zones are 5 to 7 and 8 to 13; page 5 and the pages 8 and 9 have buddies in other zones.
        buddies = start_buddies(ground, [(3, 0, 0), (6, 0, 0)])
        before = ground.image()
        self.assertEqual(list(buddies.walk()), [(5, 0, 0), (6, 1, 0), (8, 2, 0), (12, 1, 0)])
        for zone, order in ((1, 0), (1, 1), (2, 2), (2, 1), (2, 0)):
            start = buddies.take(order, 1, 22, zone=zone)[0]
            buddies.give_back(start, 22)
            self.assertEqual(ground.image(), before)
        zones = [(1, 0, 0), (3, 0, 0)]
        ground = Ground(10, 16)
        buddies = start_buddies(ground, zones)
        self.assertEqual(buddies.zone_rows()[1][0], 5)
        buddies.give_back(buddies.take(0, 1, 22)[0], 22)
        self.assertEqual(list(buddies.walk()), [(4, 0, 0), (5, 0, 0), (6, 1, 0)])
        buddies.give_back(buddies.take(0, 1, 22, zone=2)[0], 22)
        self.assertEqual(list(buddies.walk()), [(4, 0, 0), (5, 0, 0), (6, 1, 0)])

    def test_words_and_notes(self):
        start, size = self.buddies.take(1, 5, 3)
        for place in range(start, start + size):
            self.ground.write(place, place, 3)
        self.buddies.set_note(4, 1, 65535)
        self.buddies.set_note(5, 7, 8)
        self.assertEqual([self.buddies.note_at(page) for page in (4, 5, 6)], [(1, 65535), (7, 8), (0, 0)])
        self.assertEqual(read_rows(self.ground.image())[4:6], [(22, 5, 1, 65535), (0, 0, 7, 8)])
        self.assertEqual(self.buddies.give_back(start, 3), (start, size))
        self.assertEqual(self.ground.image(), self.start)

    def test_unknown(self):
        self.buddies.take(1, 5, 3)
        before = state(self.ground)
        for start in (0, 16, 63, 65, 80, 95, 96, 97, 128, 191):
            for keeper in (3, 21, 22):
                self.assertEqual(told_by(self.buddies.give_back, start, keeper), ("Unknown", ("start",)))
        self.assertEqual(state(self.ground), before)

    def test_not_held(self):
        start, size = self.buddies.take(1, 5, 3)
        before = state(self.ground)
        self.assertEqual(told_by(self.buddies.give_back, start, 4), ("NotHeld", (start, 3)))
        self.assertEqual(state(self.ground), before)
        self.ground.pass_on(start + 20, 4, 3, 4)
        before = state(self.ground)
        self.assertEqual(told_by(self.buddies.give_back, start, 3), ("NotHeld", (start + 20, 4)))
        self.assertEqual(told_by(self.buddies.give_back, start, 4), ("NotHeld", (start, 3)))
        self.assertEqual(state(self.ground), before)
        self.ground.pass_on(start + 20, 4, 4, 3)
        self.buddies.give_back(start, 3)
        self.assertEqual(self.ground.image(), self.start)

    def test_poked_words_of_given_blocks_do_not_matter(self):
        start = self.buddies.take(1, 5, 22)[0]
        self.ground.poke(start + 9, 1)
        self.buddies.give_back(start, 22)
        self.assertEqual(self.ground.image(), self.start)

    def test_wrong(self):
        self.buddies.take(1, 5, 3)
        before = state(self.ground)
        check_wrong(
            self, self.buddies.give_back, {"start": 64, "keeper": 3},
            {"start": no_integer_in(0, 191), "keeper": NO_OWNERS})
        check_wrong(
            self, self.buddies.set_note, {"page": 4, "first": 0, "second": 0},
            {"page": no_integer_in(0, 11), "first": NO_WORDS, "second": NO_WORDS})
        check_wrong(self, self.buddies.note_at, {"page": 4}, {"page": no_integer_in(0, 11)})
        check_wrong(self, self.buddies.block_at, {"place": 4}, {"place": no_integer_in(0, 191)})
        check_wrong(self, self.buddies.given, {"label": 4}, {"label": no_integer_in(0, 999)})
        check_wrong(self, self.buddies.free_pages, {"zone": 1}, {"zone": no_integer_in(1, 1)})
        self.assertEqual(state(self.ground), before)

    def test_notes_of_pages_in_no_given_block(self):
        self.buddies.take(1, 5, 3)
        before = state(self.ground)
        for page in (0, 3, 6, 7, 8, 11):
            self.assertEqual(told_by(self.buddies.set_note, page, 1, 1), ("Unknown", ("page",)))
            self.assertEqual(told_by(self.buddies.set_note, page, 0, 0), ("Unknown", ("page",)))
            self.assertEqual(told_by(self.buddies.set_note, page, -1, 0), ("BadValue", ("first",)))
            self.assertEqual(self.buddies.note_at(page), (0, 0))
        self.assertEqual(state(self.ground), before)


class LookTest(unittest.TestCase):
    def test_against_the_plain_model(self):
        ground = Ground(40, 16)
        buddies = start_buddies(ground, [(13, 0, 0), (8, 0, 0)])
        plain = PlainBuddies(40, 16, 0, [(13, 0, 0), (8, 0, 0)])
        for order, label, zone in ((1, 3, 1), (0, 4, 2), (2, 3, 2), (0, 3, 1)):
            buddies.take(order, label, 22, zone=zone)
            plain.take(order, label, 22, zone, False)
        for place in range(ground.top):
            self.assertEqual(buddies.block_at(place), plain.block_at(place))
        given = [block for block in plain.walk() if block[2]]
        self.assertEqual([buddies.given(), buddies.given(0), buddies.given(label=0)], [given] * 3)
        for label in (3, 4, 5, 999):
            self.assertEqual(buddies.given(label), [block for block in given if block[2] == label])
        for zone in (1, 2):
            self.assertIs(type(buddies.free_pages(zone)), Places)
            self.assertEqual(buddies.free_pages(zone), Places([(page, 1) for page in plain.free(zone)]))
        self.assertEqual(buddies.zone_rows(), read_zones(ground.image()))

    def test_walk_is_a_generator(self):
        buddies = start_buddies(Ground(12, 16), [(8, 0, 0)])
        walk = buddies.walk()
        self.assertIs(iter(walk), walk)
        self.assertEqual(next(walk), (4, 2, 0))
        self.assertEqual(list(walk), [(8, 2, 0)])

    def test_lists_are_new(self):
        buddies = start_buddies(Ground(12, 16), [(8, 0, 0)])
        buddies.take(0, 1, 22)
        buddies.given().clear()
        buddies.zone_rows().clear()
        self.assertEqual([len(buddies.given()), len(buddies.zone_rows())], [1, 1])


class PaperTest(unittest.TestCase):
    def setUp(self):
        zones = [(5, 0, 0), (8, 3, 1), (4, 0, 2), (3, 1, 0)]
        self.ground = Ground(30, 16)
        self.buddies = start_buddies(self.ground, zones)
        self.plain = PlainBuddies(30, 16, 0, zones)
        rng = random.Random(24)
        for zone in (1, 2, 3, 4):
            for _ in range(9):
                told = outcome(self.buddies.take, 0, 1, 22, zone=zone, urgent=True)
                self.assertEqual(self.plain.take(0, 1, 22, zone, True), told)
        for page in sorted(self.plain.blocks):
            if rng.random() < 0.5:
                self.buddies.give_back(page * 16, 22)
                self.plain.give_back(page * 16, 22)
        self.image = self.ground.image()

    def look(self, order, paper, zone, urgent):
        """Compares the judge with the plain one."""
        due = self.plain.is_paper(order, paper, zone, urgent)
        told = is_no_block(self.image, order, paper, zone=zone, urgent=urgent)
        self.assertIs(told, due, (order, paper, zone, urgent))
        return due

    def test_papers_and_bent_papers(self):
        right = wrong = 0
        for order, zone, urgent in itertools.product(range(9), (1, 2, 3, 4), (False, True)):
            paper = self.plain.paper(order, zone, urgent)
            if paper and not isinstance(paper[0], tuple):
                continue
            self.assertEqual(
                outcome(self.buddies.take, order, 1, 22, zone=zone, urgent=urgent), ("NoRoom", (paper,)))
            self.assertEqual(self.ground.image(), self.image)
            self.assertTrue(self.look(order, paper, zone, urgent))
            right += 1
            for bent in bent_papers(paper):
                wrong += not self.look(order, bent, zone, urgent)
        self.assertGreater(right, 20)
        self.assertGreater(wrong, 1000)

    def test_few_rows_for_all_zones(self):
        judged = {True: 0, False: 0}
        for order, zone, urgent in itertools.product(range(9), (1, 2, 3, 4), (False, True)):
            paper, behind = (), zone
            while behind:
                paper += ((behind, "few", len(self.plain.free(behind))),)
                behind = self.plain.zones[behind - 1][3]
            judged[self.look(order, paper, zone, urgent)] += 1
        self.assertGreater(min(judged.values()), 10)

    def test_few_row_at_the_edge(self):
        ground = Ground(12, 16)
        buddies = start_buddies(ground, [(8, 3, 0)])
        buddies.take(0, 1, 22)
        paper = ((1, "few", 7),)
        for order, urgent, due in ((2, False, False), (3, False, True), (3, True, True), (2, True, False)):
            self.assertIs(is_no_block(ground.image(), order, paper, urgent=urgent), due)
        buddies.take(0, 1, 22)
        paper = ((1, "few", 6),)
        for order, urgent, due in ((1, False, False), (2, False, True), (2, True, False), (3, True, True)):
            self.assertIs(is_no_block(ground.image(), order, paper, urgent=urgent), due)
        # The zone and the flag that are left out are 1 and False.
        self.assertIs(is_no_block(ground.image(), 2, paper), True)
        self.assertIs(is_no_block(ground.image(), 2, paper, zone=1), True)

    def test_any_right_cover(self):
        first, count, kept, _ = self.plain.zones[0]
        self.assertEqual([first, count, kept], [9, 5, 0])
        held = sorted(set(range(9, 14)) - self.plain.free(1))
        right = 0
        for size in range(len(held) + 1):
            for cover in itertools.combinations(held, size):
                for order in range(4):
                    right += self.look(order, ((1, "held", cover),), 1, False)
        self.assertGreater(right, 5)

    def test_held_row_also_where_few_pages_are_free(self):
        free = len(self.plain.free(1))
        self.assertTrue(self.look(8, ((1, "few", free),), 1, False))
        self.assertTrue(self.look(8, ((1, "held", ()),), 1, False))
        self.assertTrue(self.look(8, ((4, "held", ()),), 4, True))
        self.assertFalse(self.look(0, ((1, "held", ()),), 1, False))

    def test_any_value_is_judged(self):
        for value in ODD_VALUES + ([], [()], ((1,),), ((1, "few"),), (1, "few", 2), Places()):
            for order, zone in ((0, 1), (8, 3)):
                self.assertIs(is_no_block(self.image, order, value, zone=zone), False)

    def test_given_blocks_of_users(self):
        ground = Ground(12, 16)
        buddies = start_buddies(ground, [(8, 0, 0)])
        buddies.take(2, 1, 22)
        buddies.take(2, 1, 22)
        ground.pass_on(64, 128, 22, 3)
        self.assertIs(is_no_block(ground.image(), 0, ((1, "few", 0),)), True)
        self.assertIs(is_no_block(ground.image(), 0, ((1, "held", tuple(range(4, 12))),)), True)
        self.assertIs(is_no_block(ground.image(), 0, ((1, "held", tuple(range(5, 12))),)), False)

    def test_wrong(self):
        for paper in (((1, "few", 0),), None, [1]):
            good = {"image": self.image, "order": 8, "paper": paper, "zone": 1, "urgent": False}
            bad = {
                "image": NO_MAPS, "order": no_integer_in(0, 8), "zone": no_integer_in(1, 4), "urgent": NO_FLAGS}
            check_wrong(self, is_no_block, good, bad, named=("zone", "urgent"))

    def test_damaged_map_rows(self):
        rng = random.Random(25)
        for _ in range(60):
            ground = ground_of(self.image)
            ground.poke(rng.randrange(18, 18 + 30 * 4), rng.choice((0, 1, 9, 21, 29, 65535)))
            for order in (0, 2, 8):
                told = is_no_block(ground.image(), order, ((1, "few", 2),))
                self.assertIn(told, (True, False))


class RandomTest(unittest.TestCase):
    SHAPES = (
        (40, 16, 9, [(16, 0, 0), (8, 2, 1)]), (14, 16, 0, [(4, 1, 0), (3, 3, 1)]), (64, 32, 65535, [(37, 5, 0)]),
        (64, 32, 1, [(5, 0, 0), (8, 3, 1), (14, 0, 2), (13, 1, 0)]), (100, 64, 7, [(33, 0, 0), (60, 10, 1)]))

    def test_against_the_plain_model(self):
        for seed, (pages, width, fill, zones) in enumerate(self.SHAPES * 2):
            rng = random.Random(seed)
            ground = Ground(pages, width, fill=fill)
            buddies, plain = start_buddies(ground, zones), PlainBuddies(pages, width, fill, zones)
            start = ground.image()
            for _ in range(150):
                self.step(rng, buddies, plain)
            for page, (_, _, keeper) in sorted(plain.blocks.items()):
                buddies.give_back(page * width, keeper)
            for place in plain.words:
                if plain.block_at(place) is None:
                    ground.poke(place, fill)
            self.assertEqual(ground.image(), start)

    def step(self, rng, buddies, plain):
        """Does one thing to the buddies and to the plain model, also over a copy of the ground."""
        name, values, named = self.request(rng, plain)
        before = state(buddies.ground)
        copy = Buddies(ground_of(buddies.ground.image()))
        second = Buddies(buddies.ground)
        told = outcome(getattr(copy, name), *values, **named)
        self.assertEqual(outcome(getattr(rng.choice((buddies, second)), name), *values, **named), told)
        self.assertEqual(buddies.ground.image(), copy.ground.image())
        if name == "set_note":
            self.note(plain, told, *values)
        else:
            self.assertEqual(told, getattr(plain, name)(*values, *named.values()), (name, values, named))
        self.assertEqual(buddies.ground.image(), plain.image())
        if isinstance(told, tuple) and isinstance(told[0], str):
            self.assertEqual(state(buddies.ground), before)
            if told[0] == "NoRoom":
                self.assertIs(is_no_block(plain.image(), values[0], told[1][0], **named), True)
        self.assertEqual(list(buddies.walk()), plain.walk())
        self.assertEqual(list(copy.walk()), plain.walk())
        if rng.random() < 0.2:
            self.poke(rng, buddies, plain)

    def request(self, rng, plain):
        """A random call as its name, its arguments and those by name."""
        if rng.random() < 0.5:
            zone = rng.randint(1, len(plain.zones))
            order = rng.choice((0, 0, 0, 1, 1, 2, 3, 4, 8))
            values = (order, rng.choice((1, 7, 999)), rng.choice((1, 8, 11, 22, 28)))
            return ("take", values, {"zone": zone, "urgent": rng.random() < 0.3})
        pages = sorted(plain.blocks)
        page = rng.choice(pages) if pages and rng.random() < 0.9 else rng.randrange(plain.pages)
        if rng.random() < 0.3:
            page = min(page + rng.randrange(3), plain.pages - 1)
            return ("set_note", (page, rng.choice((0, 5, 65535)), rng.randrange(4)), {})
        keeper = plain.blocks[page][2] if page in plain.blocks else 22
        return ("give_back", (page * plain.width + (rng.random() < 0.1), rng.choice((keeper, keeper, 22))), {})

    def note(self, plain, told, page, first, second):
        """Notes the words in the plain model."""
        if plain.block_at(page * plain.width) is None:
            self.assertEqual(told, ("Unknown", ("page",)))
            return
        self.assertIsNone(told)
        plain.notes[page] = (first, second)

    def poke(self, rng, buddies, plain):
        """Pokes or mends a word behind the map."""
        place = rng.randrange(plain.front * plain.width, plain.pages * plain.width)
        if plain.words and rng.random() < 0.6:
            place = rng.choice(sorted(plain.words))
            buddies.ground.poke(place, plain.fill)
            del plain.words[place]
        else:
            word = (plain.fill + 1) % 65536
            buddies.ground.poke(place, word)
            plain.words[place] = word

    def test_forty_one_deeds_on_the_greatest_ground(self):
        ground = Ground(256, 64)
        buddies = start_buddies(ground, [(239, 0, 0)])
        start = ground.image()
        spans = []
        for depth in range(41):
            ground.begin()
            spans.append(buddies.take(depth % 4, 1 + depth, 21 + depth % 8))
        for _ in range(41):
            ground.commit()
        self.assertIs(is_image(ground.image()), True)
        for depth, span in enumerate(spans):
            buddies.give_back(span[0], 21 + depth % 8)
        self.assertEqual(ground.image(), start)

    def test_all_pages_one_by_one(self):
        for pages, width in ((256, 64), (256, 16)):
            ground = Ground(pages, width)
            front = plain_map_pages(pages, width, 1)
            buddies = start_buddies(ground, [(pages - front, 0, 0)])
            start = ground.image()
            taken = [buddies.take(0, 1, 22)[0] // width for _ in range(pages - front)]
            self.assertEqual(sorted(taken), list(range(front, pages)))
            self.assertEqual(outcome(buddies.take, 0, 1, 22), ("NoRoom", (((1, "few", 0),),)))
            random.Random(3).shuffle(taken)
            for page in taken:
                buddies.give_back(page * width, 22)
            self.assertEqual(ground.image(), start)


if __name__ == "__main__":
    unittest.main()
