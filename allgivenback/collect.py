"""Ways to nodes, the collecting of nodes that no way leads to, and the rings among these."""

from allgivenback.basics import is_whole
from allgivenback.checks import need
from allgivenback.nodes import Nodes


def graph_of(nodes):
    """A copy of the bed of the nodes, once the argument is looked at."""
    need(isinstance(nodes, Nodes), "nodes")
    return nodes.graph()


def least_ways(graph):
    """A dict of the least way of each reached node, in ascending order of length and then of the way."""
    found = {}
    waiting = [((root,), node) for root, node in enumerate(graph.roots())]
    while waiting:
        met = []
        for way, node in waiting:
            if node != 0 and node not in found:
                found[node] = way
                met.append(node)
        # The ways of one length are looked at in ascending order, and so those behind them ascend, too.
        waiting = [(found[node] + (field,), name) for node in met for field, name in enumerate(graph.names(node))]
    return found


def ways(nodes):
    """A list of tuples (node, way) of all reached nodes with their least ways, ascending by node."""
    found = least_ways(graph_of(nodes))
    return [(node, found[node]) for node in sorted(list(found))]


def is_way(nodes, node, way):
    """True if the value is a way that leads to the node."""
    graph = graph_of(nodes)
    need(is_whole(node), "node")
    if not isinstance(way, tuple) or not way or not all([is_whole(part) for part in way]):
        return False
    known = {each: True for each in graph.nodes()}
    words = graph.roots()
    place = 0
    for part in way:
        if not 0 <= part < len(words) or words[part] not in known:
            return False
        place = words[part]
        words = graph.names(place)
    return place == node


def free_rest(graph):
    """Frees all nodes that are not reached and returns a list of them, ascending."""
    reached = graph.reached()
    freed = [node for node in graph.nodes() if node not in reached]
    for node in freed:
        for name in graph.names(node):
            graph.add_count(name, -1)
    graph.free(freed)
    return freed


def collect_marking(nodes):
    """Frees all nodes that are not reached and returns a list of them, ascending."""
    graph = graph_of(nodes)
    freed = free_rest(graph)
    graph.write_back()
    return freed


def collect_moving(nodes):
    """Frees what is not reached, moves the other nodes down and returns their places as tuples (old, new)."""
    graph = graph_of(nodes)
    free_rest(graph)
    moved = graph.move_down()
    graph.write_back()
    return moved


def left_in_order(graph, known):
    """A list of the known nodes, each behind all that were met first from it."""
    done = []
    seen = {}
    for first in known:
        waiting = [(first, False)]
        while waiting:
            node, is_left = waiting.pop()
            if is_left:
                done.append(node)
            elif node in known and node not in seen:
                seen[node] = True
                waiting.append((node, True))
                waiting.extend([(name, False) for name in graph.names(node)])
    return done


def namers_in(graph, known):
    """A dict that tells for each of the known nodes the known nodes that name it."""
    before = {node: [] for node in known}
    for node in known:
        for name in graph.names(node):
            if name in known:
                before[name].append(node)
    return before


def joined(graph, known):
    """A list of the greatest sets of known nodes in which each leads to each other, each set a list, ascending."""
    before = namers_in(graph, known)
    seen = {}
    sets = []
    # From the node that was left last, the way back leads to the nodes of its own set alone.
    for last in reversed(left_in_order(graph, known)):
        found = []
        waiting = [last]
        while waiting:
            node = waiting.pop()
            if node not in seen:
                seen[node] = True
                found.append(node)
                waiting.extend(before[node])
        if found:
            sets.append(sorted(found))
    return sets


def rings(nodes):
    """A list of the rings, each a list of nodes, ascending, in ascending order of their first nodes."""
    graph = graph_of(nodes)
    reached = graph.reached()
    known = {node: True for node in graph.nodes() if node not in reached}
    return sorted([row for row in joined(graph, known) if len(row) > 1 or row[0] in graph.names(row[0])])


def shape(nodes):
    """A tuple (roots, rows) that tells the reached nodes without their places."""
    graph = graph_of(nodes)
    found = least_ways(graph)
    numbers = {node: number for number, node in enumerate(found)}
    rows = [
        (way, tuple([numbers.get(name) for name in graph.names(node)]), tuple(graph.plains(node)))
        for node, way in found.items()]
    return (tuple([numbers.get(node) for node in graph.roots()]), rows)
