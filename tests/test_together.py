"""Point 1: all keepers over one ground, which keep all spans apart and give everything back."""

import random
import unittest

from allgivenback.buddies import Buddies, start_buddies
from allgivenback.drawers import Drawers
from allgivenback.extents import Extents
from allgivenback.ground import Ground, ground_of
from allgivenback.heaps import start_heap
from allgivenback.regions import start_region
from allgivenback.slabs import Cache
from tests.helpers import is_refusal, outcome, state


class TogetherTest(unittest.TestCase):
    def setUp(self):
        self.ground = Ground(96, 16, fill=5)
        self.buddies = start_buddies(self.ground, [(40, 0, 0), (28, 3, 1)])
        self.start = self.ground.image()
        self.drawers = Drawers(self.buddies, lot=3, zone=2)
        self.extents = Extents(self.buddies, 200, order=2, limit=1)
        self.cache = Cache(self.buddies, 7, 9, align=4, order=1, zone=2)
        bed = self.buddies.take(2, 300, 24)
        self.heap = start_heap(self.ground, *bed)
        self.region_bed = self.buddies.take(1, 301, 25)
        self.region = start_region(self.ground, *self.region_bed)
        self.held = {}

    def takes(self, rng):
        """A random taking: the keeper, its arguments, those by name, the places and the alignment asked for."""
        size, user, align = rng.randint(1, 9), rng.randint(1, 8), rng.choice((1, 2, 4))
        keeper = rng.choice((self.drawers, self.extents, self.cache, self.heap))
        if keeper is self.cache:
            return keeper, (user,), {}, 9, 4
        if keeper is self.extents:
            pages = rng.randint(1, 4)
            return keeper, (pages, user), {"align": align}, 16 * pages, 16 * align
        return keeper, (size, user), {"align": align}, size, align

    def take(self, rng):
        """Takes a span and fills it with words."""
        keeper, values, named, size, align = self.takes(rng)
        span = outcome(keeper.take, *values, **named)
        if is_refusal(span):
            self.assertIn(span[0], ("NoRoom", "Unknown"))
            return
        self.assertGreaterEqual(span[1], size)
        self.assertEqual(span[0] % align, 0)
        words = [rng.randrange(65536) for _ in range(span[1])]
        for place, word in enumerate(words, start=span[0]):
            self.assertEqual(self.ground.read(place, values[-1]), 5)
            self.ground.write(place, word, values[-1])
        self.held[span[0]] = (keeper, span, values[-1], words)

    def give_back(self, rng):
        """Gives a span back, after its words were looked at."""
        keeper, span, user, words = self.held.pop(rng.choice(sorted(self.held)))
        self.assertEqual([self.ground.read(place, user) for place in range(span[0], sum(span))], words)
        self.assertEqual(keeper.give_back(span[0], user), span)

    def test_apart_and_given_back(self):
        for seed in range(4):
            self.setUp()
            rng = random.Random(seed)
            self.region.take(9, 1)
            for step in range(250):
                if self.held and rng.random() < 0.45:
                    self.give_back(rng)
                else:
                    self.take(rng)
                if step % 25 == 0:
                    self.extents.tick()
                    self.look()
            self.finish(rng)

    def look(self):
        """Checks that no two spans overlap, and that equal keepers over a copy tell the same."""
        places = [place for _, span, _, _ in self.held.values() for place in range(span[0], sum(span))]
        self.assertEqual(len(places), len(set(places)))
        buddies = Buddies(ground_of(self.ground.image()))
        self.assertEqual(Drawers(buddies, lot=3, zone=2).handed(), self.drawers.handed())
        self.assertEqual(Extents(buddies, 200, order=2).handed(), self.extents.handed())
        for keeper in (self.drawers, self.extents, self.cache):
            self.assertIsNone(keeper.first_broken())

    def finish(self, rng):
        """Gives all back to the buddies and looks at the image."""
        while self.held:
            self.give_back(rng)
        self.region.release(self.region_bed[0] + 1, 1)
        self.assertTrue(self.heap.is_empty())
        self.buddies.give_back(self.buddies.given(300)[0][0] * 16, 24)
        self.buddies.give_back(self.region_bed[0], 25)
        self.drawers.settle()
        self.extents.shrink()
        self.cache.shrink()
        self.assertEqual(self.ground.image(), self.start)

    def test_one_deed_around_all(self):
        rng = random.Random(9)
        for _ in range(30):
            self.take(rng)
        before = state(self.ground)
        held = dict(self.held)
        for _ in range(5):
            self.ground.begin()
            for _ in range(20):
                self.take(rng)
                self.give_back(rng)
            self.drawers.settle()
        for _ in range(4):
            self.ground.commit()
        self.ground.cancel()
        self.assertEqual(state(self.ground), before)
        self.held = held
        while self.held:
            self.give_back(rng)


if __name__ == "__main__":
    unittest.main()
