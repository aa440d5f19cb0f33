"""Points 56 to 58 and the interface of collect.py."""

import itertools
import random
import time
import unittest

from allgivenback import collect
from allgivenback.collect import collect_marking, collect_moving, is_way, rings, shape, ways
from allgivenback.ground import Ground, ground_of
from allgivenback.nodes import Nodes, start_nodes
from tests.helpers import HUGE, NO_INTEGERS, ODD_VALUES, bendings, check_wrong, cost_of, state, told_by
from tests.node_models import NodeBase

NO_NODES = NO_INTEGERS + (0, Nodes, Ground(2, 16))
LOOKS = ("ways", "rings", "shape")


class CollectBase(NodeBase):
    def compare(self):
        """Compares all that is looked at with the plain model; it changes nothing."""
        before = state(self.ground)
        for name in LOOKS:
            self.assertEqual(getattr(collect, name)(self.nodes), getattr(self.plain, name)())
        self.assertEqual(state(self.ground), before)

    def collect(self, name):
        """Collects in the ground, in a copy of it and in the plain model, and compares."""
        before = self.ground.image()
        shaped, spent = shape(self.nodes), self.ground.spent
        second = ground_of(before)
        told = getattr(collect, name)(self.nodes)
        self.assertEqual(told, getattr(collect, name)(self.maker(second)))
        self.assertEqual(told, getattr(self.plain, name)())
        image = self.ground.image()
        self.assertEqual([image, image], [self.plain.image(), second.image()])
        self.assertEqual([self.ground.spent - spent, self.ground.depth], [cost_of(before, image), 0])
        self.assertEqual([shape(self.nodes), rings(self.nodes)], [shaped, []])
        self.assertEqual(getattr(collect, name)(self.nodes), [] if name == "collect_marking" else [
            (new, new) for _, new in told])
        self.assertEqual(self.ground.image(), image)
        return told

    def lone_ring(self, count, root=0):
        """Makes a ring of so many nodes that is not reached, and returns its nodes."""
        nodes = [self.play("make", root, [0], [])]
        for _ in range(count - 1):
            nodes.append(self.play("make", root, [nodes[-1]], []))
        self.play("set_name", nodes[0], 0, nodes[-1])
        self.play("set_root", root, 0)
        return nodes


class WayTest(CollectBase):
    def setUp(self):
        self.make(60, start=3)
        a = self.play("make", 0, [], [7])
        b = self.play("make", 1, [a, 0, a], [])
        c = self.play("make", 2, [b, 0, b], [8])
        d = self.play("make", 4, [c, c], [])
        self.play("set_root", 0, 0)
        self.play("set_root", 1, 0)
        self.play("set_root", 6, d)
        self.play("set_name", c, 1, c)
        self.a, self.b, self.c, self.d = a, b, c, d

    def test_least_ways(self):
        self.assertEqual(ways(self.nodes), [
            (self.a, (2, 0, 0)), (self.b, (2, 0)), (self.c, (2,)), (self.d, (4,))])
        self.compare()
        self.play("set_root", 2, 0)
        self.assertEqual(ways(self.nodes), [
            (self.a, (4, 0, 0, 0)), (self.b, (4, 0, 0)), (self.c, (4, 0)), (self.d, (4,))])
        self.play("set_root", 7, self.b)
        self.assertEqual(ways(self.nodes), [
            (self.a, (7, 0)), (self.b, (7,)), (self.c, (4, 0)), (self.d, (4,))])
        self.compare()

    def test_all_short_ways(self):
        names = {node: self.nodes.names_of(node) for node in self.nodes.all_nodes()}
        for length in (1, 2, 3, 4):
            for way in itertools.product(range(-1, 9), *[range(-1, 5)] * (length - 1)):
                place = self.nodes.root_at(way[0]) if 0 <= way[0] <= 7 else 0
                for field in way[1:]:
                    row = names[place] if place else []
                    place = row[field] if 0 <= field < len(row) else 0
                for node in (self.a, self.b, self.c, self.d, 0):
                    self.assertIs(is_way(self.nodes, node, way), place == node and node != 0, (node, way))

    def test_bent_ways(self):
        way = (2, 0, 0)
        self.assertIs(is_way(self.nodes, self.a, way), True)
        self.assertIs(is_way(self.nodes, self.a, (2, 1, 1, 1, 0, 2)), True)
        right = [(2, 1, 0, 0), (2, 2, 0)]
        for bent in bendings(way):
            if not (type(bent) is tuple and all(type(part) is int for part in bent) and bent in right):
                self.assertIs(is_way(self.nodes, self.a, bent), False, bent)
        for bent in (True, False, 1.0, "0", None, HUGE, -HUGE, (0,)):
            self.assertIs(is_way(self.nodes, self.c, (2, bent)), False)
            self.assertIs(is_way(self.nodes, self.c, (bent,)), False)
        for value in ODD_VALUES + (()):
            self.assertIs(is_way(self.nodes, self.a, value), False)

    def test_any_node(self):
        for node in (0, 1, 2, -1, 64, HUGE, -HUGE):
            self.assertIs(is_way(self.nodes, node, (2, 0, 0)), False)
        self.assertIs(is_way(self.nodes, 0, (0,)), False)
        self.assertIs(is_way(self.nodes, 0, ()), False)
        self.assertIs(is_way(self.nodes, 0, (2, 0, 1)), False)

    def test_long_way(self):
        self.assertIs(is_way(self.nodes, self.c, (2,) + (1,) * 3000), True)
        self.assertIs(is_way(self.nodes, self.b, (2,) + (1,) * 3000 + (0,)), True)
        self.assertIs(is_way(self.nodes, self.b, (2,) + (1,) * 3000), False)

    def test_true_is_no_root(self):
        self.play("set_root", 1, self.a)
        self.assertIs(is_way(self.nodes, self.a, (1,)), True)
        self.assertIs(is_way(self.nodes, self.a, (True,)), False)
        self.assertIs(is_way(self.nodes, self.a, [1]), False)

    def test_damaged_bed_gives_a_flag(self):
        image = self.ground.image()
        for place in range(3, 63):
            for word in (0, 1, 2, 50, 65535):
                ground = ground_of(image)
                ground.poke(place, word)
                for way in ((2, 0, 0), (2, 1, 1), (4,), (4, 1, 2, 0)):
                    self.assertIn(is_way(self.maker(ground), self.a, way), (True, False))

    def test_wrong(self):
        before = state(self.ground)
        for call in (ways, collect_marking, collect_moving, rings, shape):
            check_wrong(self, call, {"nodes": self.nodes}, {"nodes": NO_NODES})
        for way in ((2,), None):
            check_wrong(self, is_way, {"nodes": self.nodes, "node": self.c, "way": way}, {
                "nodes": NO_NODES, "node": NO_INTEGERS})
        self.assertIs(is_way(self.nodes, HUGE, (2,)), False)
        self.assertEqual(state(self.ground)[1:], before[1:])


class MarkingTest(CollectBase):
    def test_nothing(self):
        self.make(20)
        self.compare()
        self.assertEqual([ways(self.nodes), rings(self.nodes), shape(self.nodes)], [[], [], ((None,) * 8, [])])
        self.assertEqual(self.collect("collect_marking"), [])
        self.assertEqual(self.collect("collect_moving"), [])
        self.assertEqual(self.ground.image(), self.new)

    def test_rings_of_one_and_of_many(self):
        for count in (1, 2, 3, 7):
            self.make(60, fill=4)
            nodes = self.lone_ring(count)
            self.assertEqual(rings(self.nodes), [nodes])
            self.compare()
            self.assertEqual(self.collect("collect_marking"), nodes)
            self.assertEqual(self.ground.image(), self.new)

    def test_counts_of_what_stays(self):
        self.make(60)
        kept = self.play("make", 5, [0, 0], [3])
        self.play("set_name", kept, 1, kept)
        ring = [self.play("make", 0, [0, kept, kept], [])]
        ring.append(self.play("make", 1, [ring[0], 0, kept], []))
        self.play("set_name", ring[0], 0, ring[1])
        self.play("set_root", 0, 0)
        self.play("set_root", 1, 0)
        self.assertEqual(self.play("count_of", kept), 5)
        self.assertEqual(self.collect("collect_marking"), ring)
        self.assertEqual(self.play("count_of", kept), 2)
        self.assertEqual(self.play("names_of", kept), [0, kept])

    def test_rings_and_what_hangs_on_them(self):
        self.make(100, pages=8)
        tail = self.play("make", 0, [], [1])
        first = self.lone_ring(3, root=1)
        second = self.lone_ring(2, root=2)
        # A chain from the first ring to a node behind it and to the second ring makes no ring of them.
        self.play("make", 3, [second[0], tail], [])
        bridge = self.plain.roots[3]
        extra = self.play("make", 4, [0, first[1], bridge], [])
        self.play("set_name", extra, 0, extra)
        self.play("set_root", 3, 0)
        self.play("set_root", 4, 0)
        self.assertEqual(rings(self.nodes), sorted([first, second, [extra]]))
        self.compare()
        self.play("set_root", 0, 0)
        self.assertEqual(len(self.nodes.all_nodes()), 8)
        self.assertEqual(len(self.collect("collect_marking")), 8)
        self.assertEqual(self.ground.image(), self.new)

    def test_place_0_is_no_node(self):
        # The words from place 0 on look like a node that names the ring, but 0 stands for no node.
        self.make(40, start=20)
        ring = self.lone_ring(2)
        kept = self.play("make", 0, [0, 0], [])
        for place, word in ((0, 1 + 32 * 2), (2, ring[0]), (3, ring[1])):
            self.ground.poke(place, word)
        self.assertEqual([ways(self.nodes), rings(self.nodes)], [[(kept, (0,))], [ring]])
        self.assertEqual(shape(self.nodes), ((0,) + (None,) * 7, [((0,), (None, None), ())]))
        self.assertEqual(collect_marking(self.nodes), ring)

    def test_two_rings_with_a_common_node(self):
        self.make(60)
        middle = self.play("make", 0, [0, 0], [])
        left = self.play("make", 1, [middle], [])
        right = self.play("make", 2, [middle], [])
        self.play("set_name", middle, 0, left)
        self.play("set_name", middle, 1, right)
        self.assertEqual(rings(self.nodes), [])
        for root in (0, 1, 2):
            self.play("set_root", root, 0)
        self.assertEqual(rings(self.nodes), [[middle, left, right]])
        self.compare()

    def test_new_list_each_time(self):
        self.make(60)
        self.lone_ring(2)
        rings(self.nodes)[0].clear()
        shape(self.nodes)[1].append(0)
        ways(self.nodes).append(0)
        self.compare()


class MovingTest(CollectBase):
    def test_moves_down(self):
        self.make(60, start=2, fill=9)
        a = self.play("make", 0, [0], [1])
        b = self.play("make", 1, [a, 0], [2, 3])
        c = self.play("make", 2, [], [4])
        d = self.play("make", 3, [c, b], [])
        self.play("set_root", 1, 0)
        self.play("set_name", a, 0, d)
        self.play("set_root", 3, 0)
        lost = self.lone_ring(1, root=6)
        e = self.play("make", 7, [a], [5])
        self.play("set_root", 0, e)
        self.play("set_name", d, 1, 0)
        self.compare()
        told = self.collect("collect_moving")
        places = [new for _, new in told]
        self.assertEqual([old for old, _ in told], [a, c, d, e])
        self.assertNotIn(lost[0], [old for old, _ in told])
        self.assertEqual(places, [10, 14, 17, 21])
        self.assertEqual(self.play("holes"), [(25, 37)])
        self.assertEqual([self.play("root_at", root) for root in (0, 2, 7)], [21, 14, 21])
        self.assertEqual(self.play("names_of", 10), [17])
        self.assertEqual(self.play("plains_of", 21), [5])
        self.assertEqual(self.play("count_of", 21), 2)

    def test_full_bed(self):
        self.make(20)
        for root in range(6):
            self.play("make", root, [], [])
        self.assertEqual(self.play("holes"), [])
        self.assertEqual(self.collect("collect_moving"), [(8 + 2 * k, 8 + 2 * k) for k in range(6)])
        self.play("set_root", 2, 0)
        self.assertEqual(len(self.collect("collect_moving")), 5)
        self.assertEqual(self.play("holes"), [(18, 2)])
        self.play("make", 7, [], [])
        self.assertEqual(self.play("holes"), [])

    def test_overlapping_moves(self):
        self.make(60)
        self.play("make", 0, [], [])
        last = self.play("make", 1, [0] * 5, list(range(15)))
        self.play("set_name", last, 3, last)
        self.play("set_root", 0, 0)
        self.assertEqual(self.collect("collect_moving"), [(10, 8)])
        self.assertEqual(self.play("plains_of", 8), list(range(15)))
        self.assertEqual(self.play("names_of", 8), [0, 0, 0, 8, 0])

    def test_against_the_plain_search(self):
        kinds = {"ring": 0, "lost": 0, "move": 0}
        for seed in range(120):
            rng = random.Random(seed)
            self.make(rng.choice((30, 60)), start=rng.randrange(4), fill=rng.choice((0, 7)))
            for step in range(60):
                self.random_step(rng)
                if step % 12 == 5:
                    self.compare()
                if step % 20 == 19:
                    kinds["ring"] += bool(self.plain.rings())
                    kinds["lost"] += bool(self.plain.lost())
                    told = self.collect(rng.choice(("collect_marking", "collect_moving")))
                    kinds["move"] += any(type(row) is tuple and row[0] != row[1] for row in told)
        self.assertGreater(min(kinds.values()), 15, kinds)

    def test_ways_of_random_graphs(self):
        for seed in range(30):
            rng = random.Random(seed)
            self.make(120, pages=8)
            nodes = []
            for k in range(8):
                nodes.append(self.play("make", rng.randrange(8) if k else 3, [0] * rng.choice((1, 2, 3)), [k]))
                nodes = self.plain.all_nodes()
            for _ in range(16):
                node = rng.choice(self.plain.all_nodes())
                self.play("set_name", node, rng.randrange(3), rng.choice(self.plain.all_nodes()))
            self.compare()
            for node, way in ways(self.nodes):
                self.assertIs(is_way(self.nodes, node, way), True)


class DeedTest(CollectBase):
    def setUp(self):
        self.make(60)
        self.play("make", 5, [], [])
        self.lone_ring(3)
        self.play("make", 1, [], [6])

    def test_inside_a_deed(self):
        before = state(self.ground)
        for call in (collect_marking, collect_moving):
            self.ground.begin()
            self.assertNotEqual(call(self.nodes), [])
            self.assertEqual(self.ground.depth, 1)
            self.assertNotEqual(self.ground.image(), before[0])
            self.ground.cancel()
            self.assertEqual(state(self.ground), before)

    def test_budget(self):
        before = self.ground.image()
        for call in (collect_marking, collect_moving):
            copy = ground_of(before)
            call(self.maker(copy))
            self.ground.budget = copy.spent - 1
            self.assertEqual(told_by(call, self.nodes), ("Cut", (copy.spent, copy.spent - 1)))
            self.assertEqual([self.ground.image(), self.ground.budget], [before, copy.spent - 1])
        self.ground.budget = copy.spent
        collect_moving(self.nodes)
        self.assertEqual(self.ground.budget, 0)

    def test_more_than_a_thousand_nodes(self):
        started = time.monotonic()
        ground = Ground(256, 64, fill=3)
        ground.pass_on(0, 4096, 0, 28)
        nodes = start_nodes(ground, 0, 4096)
        new = ground.image()
        chain = [nodes.make(0, [0], [])]
        for _ in range(1199):
            chain.append(nodes.make(0, [chain[-1]], []))
        self.assertEqual([rings(nodes), collect_marking(nodes)], [[], []])
        self.assertEqual(len(nodes.all_nodes()), 1200)
        nodes.set_name(chain[0], 0, chain[-1])
        self.assertEqual(rings(nodes), [])
        nodes.set_root(0, 0)
        self.assertEqual(len(nodes.all_nodes()), 1200)
        self.assertEqual(rings(nodes), [chain])
        nodes.set_root(3, chain[1100])
        self.assertEqual([rings(nodes), len(collect_moving(nodes))], [[], 1200])
        nodes.set_root(3, 0)
        self.assertEqual(collect_marking(nodes), chain)
        self.assertEqual(ground.image(), new)
        self.assertLess(time.monotonic() - started, 15)

    def test_ways_of_three_hundred_numbers(self):
        ground = Ground(256, 16)
        ground.pass_on(0, 4096, 0, 28)
        nodes = start_nodes(ground, 0, 4096)
        last = 0
        for k in range(300):
            last = nodes.make(2, [last], [k])
        told = ways(nodes)
        self.assertEqual(told[0], (8, (2,) + (0,) * 299))
        self.assertIs(is_way(nodes, *told[0]), True)
        roots, rows = shape(nodes)
        self.assertEqual(roots, (None, None, 0) + (None,) * 5)
        self.assertEqual(rows[299], ((2,) + (0,) * 299, (None,), (0,)))
        self.assertEqual(rows[5], ((2, 0, 0, 0, 0, 0), (6,), (294,)))


del CollectBase, NodeBase

if __name__ == "__main__":
    unittest.main()
