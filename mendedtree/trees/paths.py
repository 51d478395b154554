"""Paths, places and sizes in trees."""

from mendedtree.errors import NoNode
from mendedtree.trees.node import is_leaf


def at_path(node, path, place=0):
    """The pair of the place and the node to which a path leads."""
    for index in path:
        if index < 0 or index >= len(node.nodes):
            raise NoNode(path)
        place = place + sum([child.width for child in node.nodes[:index]])
        node = node.nodes[index]
    return place, node


def path_to(node, place):
    """The path of the leaf that contains the character at a place."""
    if node.kind == "root" and place == node.width and node.nodes:
        return (len(node.nodes) - 1,)
    if place < 0 or place >= node.width:
        raise NoNode(())
    path = []
    while not is_leaf(node):
        index, place = _child_at(node, place)
        if index < 0:
            raise NoNode(())
        path.append(index)
        node = node.nodes[index]
    return tuple(path)


def _child_at(node, offset):
    """The index of the child that contains an offset, and the offset in the child; -1 if there is none."""
    for index, child in enumerate(node.nodes):
        if offset < child.width:
            return index, offset
        offset = offset - child.width
    return -1, offset


def source(node, place, text):
    """The characters of a node that stands at a place, without its lead."""
    return text[place + node.lead:place + node.width]


def count_nodes(node):
    """The number of nodes of a tree; a node counts at each path where it stands."""
    return _worked_out(node, lambda counts: 1 + sum(counts))


def height(node):
    """The number of nodes on the longest way down to a node without children."""
    return _worked_out(node, lambda heights: 1 + max(heights, default=0))


def _worked_out(node, combine):
    """Works out a number for each node from the list of the numbers of its children; returns that of the node."""
    # The numbers are kept by node, because a tree may contain one node at very many paths.
    known = {}
    waiting = [node]
    while waiting:
        last = waiting[-1]
        missing = [child for child in last.nodes if child not in known]
        if missing:
            waiting.extend(missing)
            continue
        waiting.pop()
        known[last] = combine([known[child] for child in last.nodes])
    return known[node]
