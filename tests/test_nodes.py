"""Points 54 and 55 and the interface of nodes.py."""

import random
import time
import unittest

from allgivenback.buddies import start_buddies
from allgivenback.ground import Ground, ground_of
from allgivenback.nodes import Nodes, is_no_node, start_nodes
from tests.helpers import ODD_VALUES, bendings, check_wrong, is_refusal, no_integer_in, outcome, state, told_by
from tests.node_models import NodeBase
from tests.test_buddies import NO_GROUNDS
from tests.test_images import NO_IMAGES, NO_WORDS
from tests.test_marks import with_place


class StartTest(unittest.TestCase):
    def test_new_nodes(self):
        for pages, width, start, size, fill in (
                (1, 16, 0, 9, 0), (1, 16, 7, 9, 9), (2, 16, 3, 20, 65535), (256, 64, 0, 16384, 7)):
            ground = Ground(pages, width, fill=fill)
            ground.pass_on(start, size, 0, 28)
            before = ground.spent
            nodes = start_nodes(ground, start, size)
            self.assertIs(type(nodes), Nodes)
            words = [fill] * (pages * width)
            words[start:start + 9] = [0] * 8 + [2 * (size - 8)]
            self.assertEqual(ground.image()[2], tuple(words))
            self.assertEqual(ground.held_by(28).spans, [(start, size)])
            self.assertEqual([nodes.all_nodes(), nodes.holes()], [[], [(start + 8, size - 8)]])
            self.assertEqual([nodes.root_at(root) for root in range(8)], [0] * 8)
            self.assertEqual([ground.depth, ground.spent - before], [0, 8 * (fill != 0) + 1])

    def test_refused_beds(self):
        ground = Ground(2, 16, fill=9)
        ground.pass_on(3, 20, 0, 28)
        ground.pass_on(12, 1, 28, 24)
        before = state(ground)
        self.assertEqual(told_by(start_nodes, ground, 3, 20), ("NotHeld", (12, 24)))
        self.assertEqual(told_by(start_nodes, ground, 2, 10), ("NotHeld", (2, 0)))
        self.assertEqual(state(ground), before)
        for place, word in ((12, 4), (20, 1), (18, 2)):
            ground.poke(place, word)
        self.assertEqual(told_by(start_nodes, ground, 3, 20), ("Broken", (18, 2, 9)))
        self.assertEqual(told_by(start_nodes, ground, 3, 15), ("NotHeld", (12, 24)))
        for place in (12, 20, 18):
            ground.poke(place, 9)
        start_nodes(ground, 3, 9)
        self.assertEqual(told_by(start_nodes, ground, 3, 9), ("Broken", (3, 0, 9)))

    def test_wrong(self):
        ground = Ground(2, 16)
        before = state(ground)
        for start in (0, 3):
            for call in (start_nodes, Nodes):
                check_wrong(self, call, {"ground": ground, "start": start, "size": 20}, {
                    "ground": NO_GROUNDS, "start": no_integer_in(0, 31), "size": no_integer_in(9, 32 - start)})
        self.assertEqual(told_by(start_nodes, ground, 24, 9), ("BadValue", ("size",)))
        self.assertIsNone(told_by(Nodes, ground, 23, 9))
        self.assertEqual(state(ground), before)


class MakeTest(NodeBase):
    def test_example(self):
        ground = Ground(2, 16)
        ground.pass_on(0, 24, 0, 28)
        nodes = start_nodes(ground, 0, 24)
        told = [nodes.make(0, [], [5]), nodes.make(1, [8, 0], []), nodes.count_of(8), nodes.holes()]
        self.assertEqual(told, [8, 11, 2, [(15, 9)]])
        self.assertEqual(ground.image()[2][:16], (8, 11, 0, 0, 0, 0, 0, 0, 3, 2, 5, 65, 1, 8, 0, 18))

    def test_numbers_of_fields(self):
        for names, plains in ((0, 0), (15, 0), (0, 15), (15, 15), (1, 14)):
            self.make(60, start=3, fill=9)
            first = self.play("make", 7, [], [])
            node = self.play("make", 0, (first,) * names, tuple(range(plains)))
            self.assertEqual(self.play("names_of", node), [first] * names)
            self.assertEqual(self.play("plains_of", node), list(range(plains)))
            self.assertEqual(self.play("count_of", first), 1 + names)
            self.assertEqual(self.ground.word_at(node), 1 + 2 * (16 * names + plains))
            self.assertEqual(self.play("set_name", node, 14, 0) is None, names == 15)
            self.assertEqual(self.play("set_plain", node, 14, 65535) is None, plains == 15)
            self.play("set_root", 0, 0)
            self.play("set_root", 7, 0)
            self.assertEqual(self.ground.image(), self.new)

    def test_least_bed(self):
        self.make(9)
        self.assertEqual(self.play("make", 0, [], []), ("NoRoom", (("nodes", ((8, 1),)),)))
        self.make(10)
        self.assertEqual(self.play("make", 0, [], []), 8)
        self.assertEqual(self.play("make", 1, [8], []), ("NoRoom", (("nodes", ()),)))
        self.assertIs(is_no_node(self.ground.image(), 0, 10, ("nodes", ()), 3), True)
        # The node that the root would drop is still there when room is looked for.
        self.assertEqual(self.play("make", 0, [], []), ("NoRoom", (("nodes", ()),)))

    def test_lowest_hole_with_room(self):
        self.make(40)
        nodes = [self.play("make", k, [], [k] * k) for k in range(6)]
        for k in (1, 3):
            self.play("set_root", k, 0)
        self.assertEqual(self.play("holes"), [(nodes[1], 3), (nodes[3], 5), (35, 5)])
        self.assertEqual(self.play("make", 6, [], [7, 7]), nodes[3])
        self.assertEqual(self.play("holes"), [(nodes[1], 3), (nodes[3] + 4, 1), (35, 5)])
        self.assertEqual(self.play("make", 7, [0], []), nodes[1])
        self.assertEqual(self.play("make", 7, [], [1] * 4), ("NoRoom", (("nodes", ((nodes[3] + 4, 1), (35, 5))),)))

    def test_root_drops_what_it_held(self):
        self.make(40)
        first = self.play("make", 0, [], [1])
        second = self.play("make", 0, [first], [])
        self.assertEqual(self.play("count_of", first), 1)
        third = self.play("make", 0, [], [])
        self.assertEqual(self.play("all_nodes"), [third])
        self.assertEqual(self.play("holes"), [(first, third - first), (third + 2, 40 - third - 2)])
        self.assertGreater(third, second)

    def test_names_counted_before_the_root_drops(self):
        self.make(40)
        first = self.play("make", 0, [], [])
        second = self.play("make", 0, [first, first], [])
        self.assertEqual(self.play("count_of", first), 2)
        self.play("set_name", second, 0, 0)
        self.play("set_name", second, 1, second)
        self.assertEqual(self.play("all_nodes"), [second])
        self.assertEqual(self.play("count_of", second), 2)
        self.play("set_root", 0, 0)
        self.assertEqual(self.play("all_nodes"), [second])

    def test_unknown_names(self):
        self.make(40, start=2)
        self.assertEqual(self.play("make", 0, [10], []), ("Unknown", ("names",)))
        node = self.play("make", 0, [0, 0], [3])
        for name in (1, 2, node - 1, node + 1, node + 2, node + 5, 41, 63):
            self.assertEqual(self.play("make", 0, [node, name], []), ("Unknown", ("names",)))
            self.assertEqual(self.play("set_root", 0, name), ("Unknown", ("node",)))
            self.assertEqual(self.play("set_name", node, 0, name), ("Unknown", ("target",)))
            for call in ("names_of", "plains_of", "count_of"):
                self.assertEqual(self.play(call, name), ("Unknown", ("node",)))
        # Unknown names come before the room.
        self.assertEqual(self.play("make", 0, [1] * 15, [0] * 15), ("Unknown", ("names",)))

    def test_order_of_unknown(self):
        self.make(40)
        node = self.play("make", 0, [0], [5])
        for bad in (0, 9, 39):
            self.assertEqual(self.play("set_name", bad, 14, 9), ("Unknown", ("node",)))
            self.assertEqual(self.play("set_plain", bad, 14, 9), ("Unknown", ("node",)))
            for call in ("names_of", "plains_of", "count_of"):
                self.assertEqual(self.play(call, bad), ("Unknown", ("node",)))
        for field in (1, 2, 14):
            self.assertEqual(self.play("set_name", node, field, 9), ("Unknown", ("field",)))
            self.assertEqual(self.play("set_plain", node, field, 9), ("Unknown", ("field",)))
        self.assertEqual(self.play("set_name", node, 0, 9), ("Unknown", ("target",)))
        self.assertIsNone(self.play("set_root", 0, 0))

    def test_wrong(self):
        self.make(40)
        node = self.play("make", 0, [0], [5])
        before = state(self.ground)
        places, fields = no_integer_in(0, 63), no_integer_in(0, 14)
        rows = ((0,) * 16, [0] * 16, "", "ab", {}, None, 0, True, {1: 1}, range(2), {8})
        names = rows + tuple([odd] for odd in places) + tuple((0, odd) for odd in places)
        plains = rows + tuple([odd] for odd in NO_WORDS) + tuple((0, odd) for odd in NO_WORDS)
        for root in (0, 7):
            check_wrong(self, self.nodes.make, {"root": root, "names": [0] * 15, "plains": (65535,) * 15}, {
                "root": no_integer_in(0, 7), "names": names, "plains": plains})
            check_wrong(self, self.nodes.set_root, {"root": root, "node": node}, {
                "root": no_integer_in(0, 7), "node": places})
            check_wrong(self, self.nodes.root_at, {"root": root}, {"root": no_integer_in(0, 7)})
        for field in (0, 14):
            check_wrong(self, self.nodes.set_name, {"node": node, "field": field, "target": 63}, {
                "node": places, "field": fields, "target": places})
            check_wrong(self, self.nodes.set_plain, {"node": node, "field": field, "word": 65535}, {
                "node": places, "field": fields, "word": NO_WORDS})
        for call in (self.nodes.names_of, self.nodes.plains_of, self.nodes.count_of):
            check_wrong(self, call, {"node": node}, {"node": places})
        self.assertEqual(state(self.ground), before)

    def test_rows_handed_in_stay(self):
        self.make(40)
        names, plains = [0, 0], [4]
        node = self.nodes.make(0, names, plains)
        self.nodes.set_name(node, 0, node)
        names.append(3)
        plains.clear()
        self.assertEqual([self.nodes.names_of(node), self.nodes.plains_of(node)], [[node, 0], [4]])


class DropTest(NodeBase):
    def test_set_root_to_the_same(self):
        self.make(40)
        node = self.play("make", 0, [], [])
        self.assertIsNone(self.play("set_root", 0, node))
        self.assertIsNone(self.play("set_root", 3, node))
        self.assertEqual(self.play("count_of", node), 2)
        self.play("set_root", 0, 0)
        self.assertEqual(self.play("root_at", 3), node)
        self.play("set_root", 0, 0)
        self.play("set_root", 3, 0)
        self.assertEqual(self.ground.image(), self.new)

    def test_holes_are_joined(self):
        self.make(60, fill=5)
        nodes = [self.play("make", k, [], [k]) for k in range(8)]
        for k in (1, 3, 2, 0, 7, 5, 6, 4):
            self.play("set_root", k, 0)
        self.assertEqual(self.ground.image(), self.new)
        self.assertEqual(len(nodes), 8)

    def test_chains(self):
        self.make(60)
        last = 0
        for _ in range(10):
            last = self.play("make", 0, [last], [1])
        self.play("set_root", 1, last)
        self.play("set_root", 0, 0)
        self.assertEqual(len(self.play("all_nodes")), 10)
        middle = self.play("names_of", self.play("names_of", last)[0])[0]
        self.play("set_root", 5, middle)
        self.play("set_root", 1, 0)
        self.assertEqual(len(self.play("all_nodes")), 8)
        self.play("set_root", 5, 0)
        self.assertEqual(self.ground.image(), self.new)

    def test_rings_stay(self):
        self.make(60)
        first = self.play("make", 0, [0], [])
        second = self.play("make", 1, [first], [])
        self.play("set_name", first, 0, second)
        self.play("set_root", 0, 0)
        self.play("set_root", 1, 0)
        self.assertEqual(self.play("all_nodes"), [first, second])
        # A ring that is opened by hand is freed whole.
        self.assertIsNone(self.play("set_name", first, 0, 0))
        self.assertEqual(self.ground.image(), self.new)

    def test_opened_by_a_new_name(self):
        self.make(60)
        other = self.play("make", 2, [], [])
        first = self.play("make", 0, [0], [])
        second = self.play("make", 1, [first], [])
        self.play("set_name", first, 0, second)
        self.play("set_root", 0, 0)
        self.play("set_root", 1, 0)
        # The second node is dropped, then the first one, and with it the name that it has just got.
        self.assertIsNone(self.play("set_name", first, 0, other))
        self.assertEqual(self.play("all_nodes"), [other])
        self.assertEqual(self.play("count_of", other), 1)

    def test_node_that_names_itself(self):
        self.make(60)
        node = self.play("make", 0, [0, 0], [])
        self.play("set_name", node, 0, node)
        self.play("set_name", node, 1, node)
        self.assertEqual(self.play("count_of", node), 3)
        self.play("set_root", 0, 0)
        self.assertEqual(self.play("count_of", node), 2)
        self.play("set_name", node, 0, 0)
        self.assertEqual(self.play("count_of", node), 1)
        self.play("set_name", node, 1, 0)
        self.assertEqual(self.ground.image(), self.new)

    def test_one_name_twice_in_a_freed_node(self):
        self.make(60)
        node = self.play("make", 0, [], [])
        self.play("make", 1, [node, 0, node], [])
        self.play("set_root", 0, 0)
        self.assertEqual(self.play("count_of", node), 2)
        self.play("set_root", 1, 0)
        self.assertEqual(self.ground.image(), self.new)

    def test_long_chain_without_delay(self):
        ground = Ground(256, 64)
        ground.pass_on(0, 4096, 0, 28)
        nodes = start_nodes(ground, 0, 4096)
        new = ground.image()
        started = time.monotonic()
        last = 0
        for _ in range(1362):
            last = nodes.make(0, [last], [])
        self.assertEqual(nodes.holes(), [(4094, 2)])
        self.assertEqual(told_by(nodes.make, 0, [last], []), ("NoRoom", (("nodes", ((4094, 2),)),)))
        self.assertIsNone(nodes.set_root(0, 0))
        self.assertEqual(ground.image(), new)
        self.assertLess(time.monotonic() - started, 10)

    def test_greatest_bed(self):
        ground = Ground(256, 64, fill=7)
        ground.pass_on(0, 16384, 0, 28)
        nodes = start_nodes(ground, 0, 16384)
        new = ground.image()
        self.assertEqual(ground.word_at(8), 2 * 16376)
        started = time.monotonic()
        last = 0
        for k in range(300):
            last = nodes.make(k % 8, [last] * 15, [k] * 15)
        self.assertEqual(nodes.count_of(nodes.names_of(last)[0]), 16)
        for root in range(8):
            nodes.set_root(root, 0)
        self.assertEqual(ground.image(), new)
        self.assertLess(time.monotonic() - started, 10)


class PaperTest(NodeBase):
    def setUp(self):
        self.make(40, start=2)
        for k in range(6):
            self.play("make", k, [], [k] * 2)
        for k in (0, 2, 3):
            self.play("set_root", k, 0)
        self.image = self.ground.image()
        self.rows = ("nodes", ((10, 4), (18, 8), (34, 8)))

    def judge(self, paper, wanted):
        return is_no_node(self.image, 2, 40, paper, wanted)

    def test_right_and_bent(self):
        self.assertEqual(self.play("make", 0, [0] * 4, [0] * 3), ("NoRoom", (self.rows,)))
        for wanted in range(2, 33):
            self.assertIs(self.judge(self.rows, wanted), wanted > 8)
        for paper in bendings(self.rows):
            self.assertIs(self.judge(paper, 9), False, paper)

    def test_any_value(self):
        for value in ODD_VALUES + (("nodes",), ["nodes", self.rows[1]], ("nodes", list(self.rows[1]))):
            self.assertIs(self.judge(value, 9), False)

    def test_damaged_bed_gives_a_flag(self):
        for place in range(2, 42):
            for word in (0, 1, 2, 9, 80, 65535):
                image = with_place(self.image, place, word)
                self.assertIn(is_no_node(image, 2, 40, self.rows, 9), (True, False))

    def test_wrong(self):
        for paper in (self.rows, None):
            check_wrong(
                self, is_no_node, {"image": self.image, "start": 2, "size": 40, "paper": paper, "wanted": 9},
                {"image": NO_IMAGES, "start": no_integer_in(0, 63), "size": no_integer_in(9, 62),
                 "wanted": no_integer_in(2, 32)})
        self.assertEqual(told_by(is_no_node, self.image, 63, 9, None, 2), ("BadValue", ("size",)))


class RandomTest(NodeBase):
    def test_against_the_plain_model(self):
        refusals = {}
        for seed in range(25):
            rng = random.Random(seed)
            self.make(rng.choice((20, 40, 60)), start=rng.randrange(4), fill=rng.choice((0, 7, 65535)))
            for _ in range(120):
                told = self.random_step(rng)
                if is_refusal(told):
                    refusals[told] = refusals.get(told, 0) + 1
                for root in range(8):
                    self.assertEqual(self.nodes.root_at(root), self.plain.roots[root])
                for node in self.plain.all_nodes():
                    for name in ("names_of", "plains_of", "count_of"):
                        self.assertEqual(getattr(self.nodes, name)(node), getattr(self.plain, name)(node))
        unknown = {told[1][0] for told in refusals if told[0] == "Unknown"}
        self.assertEqual(unknown, {"names", "node", "field", "target"})
        self.assertGreater(sum(count for told, count in refusals.items() if told[0] == "NoRoom"), 50)

    def test_deeds(self):
        self.make(40)
        first = self.nodes.make(0, [], [1])
        before = state(self.ground)
        self.ground.begin()
        second = self.nodes.make(0, [first], [])
        self.nodes.set_name(second, 0, 0)
        self.assertEqual(self.nodes.all_nodes(), [second])
        self.assertEqual(told_by(self.nodes.set_plain, second, 0, 1), ("Unknown", ("field",)))
        self.assertEqual(self.ground.depth, 1)
        self.ground.cancel()
        self.assertEqual(state(self.ground), before)

    def test_budget(self):
        self.make(40, fill=9)
        first = self.nodes.make(0, [0], [1])
        self.nodes.make(1, [first], [])
        before = self.ground.image()
        calls = (
            ("make", 2, [first], [3]), ("set_root", 1, 0), ("set_name", first, 0, first), ("set_plain", first, 0, 7))
        for name, *values in calls:
            copy = ground_of(before)
            outcome(getattr(self.maker(copy), name), *values)
            cost = copy.spent
            self.assertGreater(cost, 0)
            self.ground.budget = cost - 1
            self.assertEqual(told_by(getattr(self.nodes, name), *values), ("Cut", (cost, cost - 1)))
            self.assertEqual([self.ground.image(), self.ground.budget, self.ground.depth], [before, cost - 1, 0])
        blank = Ground(2, 16)
        blank.pass_on(0, 20, 0, 28)
        blank.budget = 0
        self.assertEqual(told_by(start_nodes, blank, 0, 20), ("Cut", (1, 0)))

    def test_equal_nodes_over_one_bed(self):
        self.make(40)
        other = Nodes(self.ground, 0, 40)
        first = self.nodes.make(0, [], [4])
        self.assertEqual(other.make(1, [first], []), first + 3)
        copy = Nodes(ground_of(self.ground.image()), 0, 40)
        self.assertEqual([copy.all_nodes(), copy.count_of(first)], [self.nodes.all_nodes(), 2])

    def test_block_of_the_buddies(self):
        ground = Ground(24, 16)
        buddies = start_buddies(ground, [(16, 0, 0)])
        before = ground.image()
        start, size = buddies.take(2, 77, 28)
        nodes = start_nodes(ground, start, size)
        node = nodes.make(0, [], [3])
        self.assertEqual(node, start + 8)
        nodes.make(0, [node], [])
        nodes.set_root(0, 0)
        buddies.give_back(start, 28)
        self.assertEqual(ground.image(), before)

    def test_lists_are_new(self):
        self.make(40)
        node = self.nodes.make(0, [0], [4])
        for call in (self.nodes.all_nodes, self.nodes.holes, lambda: self.nodes.names_of(node),
                     lambda: self.nodes.plains_of(node)):
            before = call()
            call().append(0)
            self.assertEqual(call(), before)


if __name__ == "__main__":
    unittest.main()
