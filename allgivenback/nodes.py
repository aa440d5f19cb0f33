"""Nodes: they lie in a bed, name each other and are freed when nobody names them any more."""

from allgivenback.basics import NODE, NoRoom, Unknown
from allgivenback.beds import need_bed, need_bed_in, need_new_bed
from allgivenback.checks import is_exactly, is_row, is_word, need, need_whole
from allgivenback.graphs import BEFORE_NAMES, ROOTS, Graph, hole_rows, parts_in

# The roots and one place more; 15 names or plain words; a head and a count before 15 of both.
LEAST_NODES = 9
MOST_FIELDS = 15
MOST_NODE = 32


def start_nodes(ground, start, size):
    """Makes nodes in a bed and returns them."""
    need_bed(ground, start, size, LEAST_NODES)
    need_new_bed(ground, start, size, NODE)
    ground.write_row(start, (0,) * ROOTS + (2 * (size - ROOTS),), NODE)
    return Nodes(ground, start, size)


class Nodes:
    """A view of the nodes in a bed."""

    def __init__(self, ground, start, size):
        need_bed(ground, start, size, LEAST_NODES)
        self._ground = ground
        self._start = start
        self._size = size

    def graph(self):
        """A copy of the bed, in which its nodes are looked at and changed."""
        return Graph(self._ground, self._start, self._size)

    def _need_place(self, value, parameter):
        """Raises BadValue unless the argument is a place of the ground."""
        need_whole(value, 0, self._ground.top - 1, parameter)

    def make(self, root, names, plains):
        """Makes a node, sets the root to it and returns it."""
        need_whole(root, 0, ROOTS - 1, "root")
        need(is_row(names) and len(names) <= MOST_FIELDS, "names")
        for name in names:
            self._need_place(name, "names")
        need(is_row(plains) and len(plains) <= MOST_FIELDS, "plains")
        for word in plains:
            need(is_word(word), "plains")
        graph = self.graph()
        parts = graph.parts()
        known = {place: True for place, _, is_node in parts if is_node}
        if any([name != 0 and name not in known for name in names]):
            raise Unknown("names")
        holes = hole_rows(parts)
        fitting = [place for place, count in holes if count >= BEFORE_NAMES + len(names) + len(plains)]
        if not fitting:
            raise NoRoom(("nodes", holes))
        graph.put_node(fitting[0], list(names), list(plains))
        for name in names:
            graph.add_count(name, 1)
        graph.put_name(self._start + root, fitting[0])
        graph.write_back()
        return fitting[0]

    def set_root(self, root, node):
        """Lets the root hold a node or 0."""
        need_whole(root, 0, ROOTS - 1, "root")
        self._need_place(node, "node")
        graph = self.graph()
        if node != 0 and node not in graph.nodes():
            raise Unknown("node")
        graph.put_name(self._start + root, node)
        graph.write_back()

    def set_name(self, node, field, target):
        """Lets a name word of a node hold a node or 0."""
        self._need_place(node, "node")
        need_whole(field, 0, MOST_FIELDS - 1, "field")
        self._need_place(target, "target")
        graph = self._graph_of(node)
        place = graph.first_name(node) + field
        if place >= graph.first_plain(node):
            raise Unknown("field")
        if target != 0 and target not in graph.nodes():
            raise Unknown("target")
        graph.put_name(place, target)
        graph.write_back()

    def set_plain(self, node, field, word):
        """Changes a plain word of a node."""
        self._need_place(node, "node")
        need_whole(field, 0, MOST_FIELDS - 1, "field")
        need(is_word(word), "word")
        graph = self._graph_of(node)
        place = graph.first_plain(node) + field
        if place >= graph.end_of_node(node):
            raise Unknown("field")
        self._ground.write(place, word, NODE)

    def _graph_of(self, node):
        """A copy of the bed; Unknown if the place is not that of a node."""
        graph = self.graph()
        if node not in graph.nodes():
            raise Unknown("node")
        return graph

    def root_at(self, root):
        """What the root holds."""
        need_whole(root, 0, ROOTS - 1, "root")
        return self._ground.word_at(self._start + root)

    def names_of(self, node):
        """A list of the name words of a node."""
        self._need_place(node, "node")
        return self._graph_of(node).names(node)

    def plains_of(self, node):
        """A list of the plain words of a node."""
        self._need_place(node, "node")
        return self._graph_of(node).plains(node)

    def count_of(self, node):
        """The number of roots and name words that hold the node."""
        self._need_place(node, "node")
        return self._graph_of(node).count_at(node)

    def all_nodes(self):
        """A list of all nodes, ascending."""
        return self.graph().nodes()

    def holes(self):
        """A list of tuples (place, n) of all holes, ascending."""
        return list(hole_rows(self.graph().parts()))


def is_no_node(image, start, size, paper, wanted):
    """True if the paper lists the holes of a bed, and none of them has so many places."""
    need_bed_in(image, start, size, LEAST_NODES)
    need_whole(wanted, BEFORE_NAMES, MOST_NODE, "wanted")
    rows = hole_rows(parts_in(image[2], start + ROOTS, start + size))
    return is_exactly(paper, ("nodes", rows)) and all([count < wanted for _, count in rows])
