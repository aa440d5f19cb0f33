"""A slow plain model of nodes and of what is collected among them; counts are worked out anew each time."""

import unittest

from allgivenback.ground import Ground
from allgivenback.nodes import Nodes, is_no_node, start_nodes
from tests.helpers import Refused, is_refusal, play


class PlainNodes:
    """Slow nodes: eight roots, and the names and plain words of each node by its place."""

    def __init__(self, image, start, size):
        self.base, self.start, self.size = image, start, size
        self.roots = [0] * 8
        self.nodes = {}

    def image(self):
        width, fill, words, holders = self.base
        words = list(words)
        words[self.start:self.start + self.size] = [fill] * self.size
        words[self.start:self.start + 8] = self.roots
        for node, (names, plains) in self.nodes.items():
            row = [1 + 2 * (16 * len(names) + len(plains)), self.count_of(node), *names, *plains]
            words[node:node + len(row)] = row
        for place, n in self.holes():
            words[place] = 2 * n
        return (width, fill, tuple(words), holders)

    def all_nodes(self):
        return sorted(self.nodes)

    def taken(self):
        """The places of all nodes."""
        return {node + k for node, row in self.nodes.items() for k in range(2 + len(row[0]) + len(row[1]))}

    def holes(self):
        taken, out = self.taken(), []
        for place in range(self.start + 8, self.start + self.size):
            if place not in taken:
                if out and sum(out[-1]) == place:
                    out[-1] = (out[-1][0], out[-1][1] + 1)
                else:
                    out.append((place, 1))
        return out

    def count(self, node):
        return self.roots.count(node) + sum(names.count(node) for names, _ in self.nodes.values())

    def need_node(self, node, parameter):
        if node not in self.nodes:
            raise Refused("Unknown", parameter)

    def count_of(self, node):
        self.need_node(node, "node")
        return self.count(node)

    def root_at(self, root):
        return self.roots[root]

    def names_of(self, node):
        self.need_node(node, "node")
        return list(self.nodes[node][0])

    def plains_of(self, node):
        self.need_node(node, "node")
        return list(self.nodes[node][1])

    def make(self, root, names, plains):
        for name in names:
            if name:
                self.need_node(name, "names")
        needed = 2 + len(names) + len(plains)
        fitting = [place for place, n in self.holes() if n >= needed]
        if not fitting:
            raise Refused("NoRoom", ("nodes", tuple(self.holes())))
        self.nodes[fitting[0]] = (list(names), list(plains))
        old, self.roots[root] = self.roots[root], fitting[0]
        self.look_after(old)
        return fitting[0]

    def look_after(self, node):
        """Frees a node that nobody holds any more, and then what it named."""
        if node in self.nodes and self.count(node) == 0:
            names, _ = self.nodes.pop(node)
            for name in names:
                self.look_after(name)

    def set_root(self, root, node):
        if node:
            self.need_node(node, "node")
        old, self.roots[root] = self.roots[root], node
        self.look_after(old)

    def set_name(self, node, field, target):
        self.need_node(node, "node")
        names = self.nodes[node][0]
        if field >= len(names):
            raise Refused("Unknown", "field")
        if target:
            self.need_node(target, "target")
        old, names[field] = names[field], target
        self.look_after(old)

    def set_plain(self, node, field, word):
        self.need_node(node, "node")
        if field >= len(self.nodes[node][1]):
            raise Refused("Unknown", "field")
        self.nodes[node][1][field] = word

    def least(self):
        """The least way of each reached node: candidates are looked at until none is better."""
        best, changed = {}, True
        while changed:
            changed = False
            rows = [((root,), node) for root, node in enumerate(self.roots)]
            rows += [(way + (field,), name) for node, way in best.items()
                     for field, name in enumerate(self.nodes[node][0])]
            for way, node in rows:
                if node and (node not in best or (len(way), way) < (len(best[node]), best[node])):
                    best[node] = way
                    changed = True
        return best

    def ways(self):
        return sorted(self.least().items())

    def lost(self):
        """The nodes that are not reached, ascending."""
        return [node for node in self.all_nodes() if node not in self.least()]

    def collect_marking(self):
        lost = self.lost()
        for node in lost:
            del self.nodes[node]
        return lost

    def collect_moving(self):
        self.collect_marking()
        targets, place = {0: 0}, self.start + 8
        for node in self.all_nodes():
            targets[node] = place
            place += 2 + len(self.nodes[node][0]) + len(self.nodes[node][1])
        self.nodes = {
            targets[node]: ([targets[name] for name in names], plains) for node, (names, plains) in self.nodes.items()}
        self.roots = [targets[node] for node in self.roots]
        return sorted((old, new) for old, new in targets.items() if old)

    def behind(self, node):
        """All nodes to which a node leads by one or more names."""
        found, waiting = set(), [node]
        while waiting:
            for name in self.nodes[waiting.pop()][0]:
                if name and name not in found:
                    found.add(name)
                    waiting.append(name)
        return found

    def rings(self):
        lost = self.lost()
        behind = {node: self.behind(node) for node in lost}
        out = []
        for node in lost:
            ring = [each for each in lost if each in behind[node] and node in behind[each]]
            if ring and ring not in out:
                out.append(ring)
        return sorted(out)

    def shape(self):
        best = self.least()
        order = sorted(best, key=lambda node: (len(best[node]), best[node]))
        number = {node: at for at, node in enumerate(order)}
        rows = [(best[node], tuple(number.get(name) for name in self.nodes[node][0]), tuple(self.nodes[node][1]))
                for node in order]
        return (tuple(number.get(node) for node in self.roots), rows)


class NodeBase(unittest.TestCase):
    def make(self, size, start=0, fill=0, pages=4):
        """Makes a ground with nodes, and their plain model."""
        self.ground = Ground(pages, 16, fill=fill)
        self.ground.pass_on(start, size, 0, 28)
        self.nodes = start_nodes(self.ground, start, size)
        self.maker = lambda ground: Nodes(ground, start, size)
        self.plain = PlainNodes(self.ground.image(), start, size)
        self.new = self.ground.image()
        self.assertEqual(self.new, self.plain.image())

    def play(self, *values, **named):
        told = play(self, self.maker, self.ground, self.plain, *values, **named)
        nodes = self.maker(self.ground)
        self.assertEqual([nodes.all_nodes(), nodes.holes()], [self.plain.all_nodes(), self.plain.holes()])
        for node in self.plain.all_nodes():
            self.assertGreaterEqual(nodes.count_of(node), 1)
        return told

    def random_step(self, rng):
        """Makes one random change."""
        known = self.plain.all_nodes() or [self.plain.start + 8]
        pick = lambda: rng.choice(known + [0]) if rng.random() < 0.95 else rng.randrange(self.ground.top)
        name = rng.choice(("make", "make", "make", "set_root", "set_name", "set_name", "set_plain"))
        if name == "make":
            names = [pick() for _ in range(rng.choice((0, 1, 1, 2, 3)))]
            plains = [rng.randrange(65536) for _ in range(rng.choice((0, 0, 1, 2)))]
            told = self.play("make", rng.randrange(3), names, plains)
            if is_refusal(told) and told[0] == "NoRoom":
                args = (self.ground.image(), self.plain.start, self.plain.size)
                self.assertIs(is_no_node(*args, told[1][0], 2 + len(names) + len(plains)), True)
            return told
        if name == "set_root":
            return self.play(name, rng.randrange(3), pick())
        value = pick() if name == "set_name" else rng.randrange(65536)
        return self.play(name, pick(), rng.choice((0, 0, 1, 2)), value)
