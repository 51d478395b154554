"""The nodes of an old tree that can be used in the tree of a new text."""

from mendedtree.trees.node import walk


def usable_nodes(tree, carry):
    """The triples (old place, new place, node) of all nodes of an old tree that a carry leaves usable."""
    found = []
    for place, node in walk(tree):
        if carry.intact(place, place + node.look):
            found.append((place, carry.to_new(place), node))
    return found
