"""Trees as queries see them, without hidden nodes."""


def seen(grammar, node):
    """The seen children of a node: a list of triples (offset, label, node)."""
    found = []
    waiting = _children(grammar, node, 0, "")
    while waiting:
        offset, label, child = waiting.pop()
        if child.kind in grammar.hidden:
            waiting.extend(_children(grammar, child, offset, label))
        else:
            found.append((offset, label, child))
    return found


def _children(grammar, node, offset, outer):
    """The children of a node from the last to the first, as triples (offset, label, node)."""
    labels = [""] * len(node.nodes)
    if node.alternative >= 0:
        labels = grammar.alternatives[node.alternative][2]
    found = []
    for label, child in zip(labels, node.nodes):
        # A child without a label of its own takes that of the hidden node around it.
        found.append((offset, label or outer, child))
        offset = offset + child.width
    found.reverse()
    return found
