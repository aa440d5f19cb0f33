"""Point 1: all keepers over one ground, which keep all spans apart and give everything back."""

import random
import unittest

from allgivenback.audit import account, audit, first_broken_word
from allgivenback.buddies import Buddies, start_buddies
from allgivenback.collect import collect_marking, collect_moving, rings, shape
from allgivenback.drawers import Drawers
from allgivenback.extents import Extents
from allgivenback.ground import Ground, ground_of
from allgivenback.handles import start_handles
from allgivenback.heaps import start_heap
from allgivenback.nodes import start_nodes
from allgivenback.regions import start_region
from allgivenback.sessions import Session
from allgivenback.slabs import Cache
from allgivenback.store import Store
from allgivenback.twin import is_run
from tests.helpers import is_refusal, outcome, state


class TogetherTest(unittest.TestCase):
    def setUp(self):
        self.ground = Ground(96, 16, fill=5)
        self.buddies = start_buddies(self.ground, [(40, 0, 0), (28, 3, 1)])
        self.start = self.ground.image()
        self.drawers = Drawers(self.buddies, lot=3, zone=2)
        self.extents = Extents(self.buddies, 200, order=2, limit=1)
        self.cache = Cache(self.buddies, 7, 9, align=4, order=1, zone=2)
        bed = self.buddies.take(2, 300, 24)
        self.heap = start_heap(self.ground, *bed)
        self.region_bed = self.buddies.take(1, 301, 25)
        self.region = start_region(self.ground, *self.region_bed)
        self.held = {}

    def takes(self, rng):
        """A random taking: the keeper, its arguments, those by name, the places and the alignment asked for."""
        size, user, align = rng.randint(1, 9), rng.randint(1, 8), rng.choice((1, 2, 4))
        keeper = rng.choice((self.drawers, self.extents, self.cache, self.heap))
        if keeper is self.cache:
            return keeper, (user,), {}, 9, 4
        if keeper is self.extents:
            pages = rng.randint(1, 4)
            return keeper, (pages, user), {"align": align}, 16 * pages, 16 * align
        return keeper, (size, user), {"align": align}, size, align

    def take(self, rng):
        """Takes a span and fills it with words."""
        keeper, values, named, size, align = self.takes(rng)
        span = outcome(keeper.take, *values, **named)
        if is_refusal(span):
            self.assertIn(span[0], ("NoRoom", "Unknown"))
            return
        self.assertGreaterEqual(span[1], size)
        self.assertEqual(span[0] % align, 0)
        words = [rng.randrange(65536) for _ in range(span[1])]
        for place, word in enumerate(words, start=span[0]):
            self.assertEqual(self.ground.read(place, values[-1]), 5)
            self.ground.write(place, word, values[-1])
        self.held[span[0]] = (keeper, span, values[-1], words)

    def give_back(self, rng):
        """Gives a span back, after its words were looked at."""
        keeper, span, user, words = self.held.pop(rng.choice(sorted(self.held)))
        self.assertEqual([self.ground.read(place, user) for place in range(span[0], sum(span))], words)
        self.assertEqual(keeper.give_back(span[0], user), span)

    def test_apart_and_given_back(self):
        for seed in range(4):
            self.setUp()
            rng = random.Random(seed)
            self.region.take(9, 1)
            for step in range(250):
                if self.held and rng.random() < 0.45:
                    self.give_back(rng)
                else:
                    self.take(rng)
                if step % 25 == 0:
                    self.extents.tick()
                    self.look()
            self.finish(rng)

    def look(self):
        """Checks that no two spans overlap, and that equal keepers over a copy tell the same."""
        places = [place for _, span, _, _ in self.held.values() for place in range(span[0], sum(span))]
        self.assertEqual(len(places), len(set(places)))
        buddies = Buddies(ground_of(self.ground.image()))
        self.assertEqual(Drawers(buddies, lot=3, zone=2).handed(), self.drawers.handed())
        self.assertEqual(Extents(buddies, 200, order=2).handed(), self.extents.handed())
        for keeper in (self.drawers, self.extents, self.cache):
            self.assertIsNone(keeper.first_broken())

    def finish(self, rng):
        """Gives all back to the buddies and looks at the image."""
        while self.held:
            self.give_back(rng)
        self.region.release(self.region_bed[0] + 1, 1)
        self.assertTrue(self.heap.is_empty())
        self.buddies.give_back(self.buddies.given(300)[0][0] * 16, 24)
        self.buddies.give_back(self.region_bed[0], 25)
        self.drawers.settle()
        self.extents.shrink()
        self.cache.shrink()
        self.assertEqual(self.ground.image(), self.start)

    def test_one_deed_around_all(self):
        rng = random.Random(9)
        for _ in range(30):
            self.take(rng)
        before = state(self.ground)
        held = dict(self.held)
        for _ in range(5):
            self.ground.begin()
            for _ in range(20):
                self.take(rng)
                self.give_back(rng)
            self.drawers.settle()
        for _ in range(4):
            self.ground.commit()
        self.ground.cancel()
        self.assertEqual(state(self.ground), before)
        self.held = held
        while self.held:
            self.give_back(rng)


class HomeTest(unittest.TestCase):
    """A session over a store, and handles, nodes and a region in blocks of the same buddies."""

    def setUp(self):
        self.ground = Ground(110, 16, fill=5)
        self.buddies = start_buddies(self.ground, [(44, 0, 0), (26, 1, 1), (6, 0, 0)])
        self.start = self.ground.image()
        self.session = Session(Store(self.buddies, zone=2, slow=3, arena=1, lot=3, limit=1))
        self.beds = {keeper: self.buddies.take(2, 500 + keeper, keeper) for keeper in (25, 26, 28)}
        self.region = start_region(self.ground, *self.beds[25])
        self.handles = start_handles(self.ground, *self.beds[26], 6)
        self.nodes = start_nodes(self.ground, *self.beds[28])
        self.before = self.ground.image()
        self.requests, self.outcomes = [], []
        self.payloads, self.graph = {}, {}

    def do(self, *request):
        """Does a request, and now and then looks at all words."""
        self.requests.append(request)
        self.outcomes.append(self.session.do(request))
        return self.outcomes[-1]

    def random_request(self, rng):
        user, name, size = rng.randint(1, 8), rng.choice("ab"), rng.choice((1, 3, 7, 12, 16, 20, 31))
        self.do(*rng.choice((
            ("take", user, name, size, 1), ("take", user, name, size, rng.choice((4, 16))), ("free", user, name),
            ("resize", user, name, size), ("put", user, name, rng.randrange(3), rng.randrange(65536)),
            ("get", user, name, 0), ("pass", user, name, user % 8 + 1), ("map", user, name, 2),
            ("store", user, name, rng.randrange(32), rng.randrange(65536)), ("load", user, name, rng.randrange(32)),
            ("share", user, name, user % 8 + 1), ("out", user, name), ("unmap", user, name), ("tick",), ("settle",))))

    def random_parcel(self, rng):
        """Takes or gives back a parcel, or moves all."""
        user = rng.randint(1, 8)
        told = outcome(self.handles.take, rng.randint(1, 9), user)
        if not is_refusal(told):
            start, size = self.handles.span_at(told)
            self.assertEqual([self.handles.read(told, k, user) for k in range(size)], [5] * size)
            self.payloads[told] = (user, [rng.randrange(65536) for _ in range(size)])
            for k, word in enumerate(self.payloads[told][1]):
                self.handles.write(told, k, word, user)
        elif self.payloads:
            handle = rng.choice(sorted(self.payloads))
            self.give_back(handle)
            self.handles.compact()

    def give_back(self, handle):
        user, words = self.payloads.pop(handle)
        self.assertEqual([self.handles.read(handle, k, user) for k in range(len(words))], words)
        self.handles.give_back(handle, user)

    def random_node(self, rng):
        """Makes a node that names some others, and collects now and then."""
        known = self.nodes.all_nodes()
        names = [rng.choice(known + [0]) for _ in range(rng.randint(0, 2))]
        if is_refusal(outcome(self.nodes.make, rng.randrange(8), names, [rng.randrange(9)])):
            before = shape(self.nodes)
            rng.choice((collect_marking, collect_moving))(self.nodes)
            self.assertEqual([shape(self.nodes), rings(self.nodes)], [before, []])
            self.nodes.set_root(rng.randrange(8), 0)

    def test_apart_and_given_back(self):
        for seed in range(5):
            self.setUp()
            rng = random.Random(seed)
            for step in range(120):
                self.random_request(rng)
                if step % 2:
                    self.random_parcel(rng)
                    self.random_node(rng)
                if step % 30 == 0:
                    self.region.take(2, 1)
                    self.look()
            self.finish()

    def look(self):
        """All spans are kept apart, the twin agrees, and the audit of the image finds nothing broken."""
        store = self.session.home
        spans = [row[:2] for row in store.handed() + self.handles.handed() + self.region.handed()]
        places = [place for start, size in spans for place in range(start, start + size)]
        self.assertEqual(len(places), len(set(places)))
        self.assertIs(is_run(self.requests, self.outcomes, width=16, fill=5), True)
        image = self.ground.image()
        self.assertIsNone(first_broken_word(image, arena=1))
        self.assertEqual(audit(image, arena=1), store.handed())
        self.assertEqual(sum(number for _, number in account(image)), 110 * 16)

    def finish(self):
        """Gives all back to the buddies and looks at the image."""
        self.look()
        for user in range(1, 9):
            for name, kind, _, _ in self.session.names_of(user):
                self.assertEqual(self.do("free" if kind == "span" else "unmap", user, name)[0], "done")
        self.do("settle")
        for handle in sorted(self.payloads):
            self.give_back(handle)
        for root in range(8):
            self.nodes.set_root(root, 0)
        collect_moving(self.nodes)
        self.region.release(self.beds[25][0] + 1, 1)
        self.assertEqual(self.ground.image(), self.before)
        for keeper, (start, _) in self.beds.items():
            self.buddies.give_back(start, keeper)
        self.assertEqual(self.ground.image(), self.start)


if __name__ == "__main__":
    unittest.main()
