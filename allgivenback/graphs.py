"""The nodes and holes of a bed, as its words tell them, on a copy that is written back when it was changed."""

from allgivenback.basics import NODE

ROOTS = 8
# A head holds the number of plain words below this number, and the number of names in steps of it.
FIELDS = 16
# A node has a head and a count before its names.
BEFORE_NAMES = 2


def head_of(names, plains):
    """The head of a node with so many names and plain words."""
    return 1 + 2 * (FIELDS * names + plains)


def parts_in(words, low, end):
    """A list of tuples (place, n, is_node) of the nodes and holes from low to the end, ascending."""
    parts = []
    place = low
    while place < end:
        half = words[place] // 2
        is_node = words[place] % 2 == 1
        count = BEFORE_NAMES + half // FIELDS + half % FIELDS if is_node else half
        # The judges are also asked of damaged beds; there the walk ends at what cannot be a part.
        if count == 0 or place + count > end:
            break
        parts.append((place, count, is_node))
        place = place + count
    return parts


def hole_rows(parts):
    """A tuple of (place, n) of the holes among the parts."""
    return tuple([(place, count) for place, count, is_node in parts if not is_node])


class Graph:
    """A copy of the words of the ground, in which the nodes of one bed are looked at and changed."""

    def __init__(self, ground, start, size):
        self._ground = ground
        self._start = start
        self._end = start + size
        self._words = list(ground.image()[2])

    def roots(self):
        """The words of the roots."""
        return self._words[self._start:self._start + ROOTS]

    def parts(self):
        """A list of tuples (place, n, is_node) of the nodes and holes, ascending."""
        return parts_in(self._words, self._start + ROOTS, self._end)

    def nodes(self):
        """A list of all nodes, ascending."""
        return [place for place, _, is_node in self.parts() if is_node]

    def first_name(self, node):
        """The place of the node's first name word, if it has one."""
        return node + BEFORE_NAMES

    def first_plain(self, node):
        """The place of the node's first plain word, if it has one."""
        return node + BEFORE_NAMES + self._words[node] // 2 // FIELDS

    def end_of_node(self, node):
        """The place behind the node."""
        return self.first_plain(node) + self._words[node] // 2 % FIELDS

    def names(self, node):
        """The name words of a node."""
        return self._words[self.first_name(node):self.first_plain(node)]

    def plains(self, node):
        """The plain words of a node."""
        return self._words[self.first_plain(node):self.end_of_node(node)]

    def count_at(self, node):
        """The count of a node."""
        return self._words[node + 1]

    def add_count(self, node, step):
        """Adds to the count of a node; 0 is no node and has none."""
        if node != 0:
            self._words[node + 1] = self._words[node + 1] + step

    def put_node(self, place, names, plains):
        """Puts a node with the count 0 at a place at which a hole begins that has room for it."""
        end = place + self._words[place] // 2
        row = [head_of(len(names), len(plains)), 0] + names + plains
        self._words[place:place + len(row)] = row
        self.put_hole(place + len(row), end)

    def put_hole(self, low, end):
        """Makes a hole of the places, if there are any; it may touch others until join_holes is called."""
        if low < end:
            self._words[low:end] = [2 * (end - low)] + [self._ground.fill] * (end - low - 1)

    def put_name(self, place, target):
        """Sets a root or a name word: the new value is counted, then set, and then the old one is dropped."""
        old = self._words[place]
        self.add_count(target, 1)
        self._words[place] = target
        self._drop(old)

    def _drop(self, node):
        """Lessens the count of a node and frees it at 0, and so on with what it names."""
        freed = []
        waiting = [node]
        while waiting:
            each = waiting.pop()
            self.add_count(each, -1)
            if each != 0 and self.count_at(each) == 0:
                waiting.extend(self.names(each))
                freed.append(each)
        self.free(freed)

    def free(self, nodes):
        """Makes holes of nodes, which are joined with holes that touch them."""
        for node in nodes:
            self.put_hole(node, self.end_of_node(node))
        if nodes:
            self._join_holes()

    def _join_holes(self):
        """Makes one hole of holes that touch."""
        low = None
        # The end of the bed ends the last hole as a node would.
        parts = self.parts() + [(self._end, 0, True)]
        for place, _, is_node in parts:
            if is_node and low is not None:
                self.put_hole(low, place)
                low = None
            elif not is_node and low is None:
                low = place

    def move_down(self):
        """Moves all nodes down and returns a list of tuples (old, new) of their places, ascending."""
        low = self._start + ROOTS
        nodes = self.nodes()
        targets = {0: 0}
        edge = low
        for node in nodes:
            targets[node] = edge
            edge = edge + self.end_of_node(node) - node
        row = [targets[word] for word in self.roots()]
        for node in nodes:
            row.extend(self._words[node:self.first_name(node)])
            row.extend([targets[name] for name in self.names(node)])
            row.extend(self.plains(node))
        self._words[self._start:edge] = row
        self.put_hole(edge, self._end)
        return [(node, targets[node]) for node in nodes]

    def reached(self):
        """A dict with each node to which a way leads."""
        found = {}
        waiting = self.roots()
        while waiting:
            node = waiting.pop()
            if node != 0 and node not in found:
                found[node] = True
                waiting.extend(self.names(node))
        return found

    def write_back(self):
        """Writes the words of the bed that were changed into the ground."""
        before = self._ground.image()[2][self._start:self._end]
        after = self._words[self._start:self._end]
        self._ground.put_cells([
            (place, new, NODE) for place, (old, new) in enumerate(zip(before, after), start=self._start)
            if new != old])
