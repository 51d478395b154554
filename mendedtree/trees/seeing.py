"""Trees as queries see them, without hidden nodes."""


def seen(grammar, node):
    """The seen children of a node: a list of triples (offset, label, node)."""
    found = []
    waiting = _children(grammar, node, 0, "")
    while waiting:
        offset, label, child = waiting.pop()
        if child.kind in grammar.hidden:
            waiting.extend(_children(grammar, child, offset, label))
        else:
            found.append((offset, label, child))
    return found


def _children(grammar, node, offset, outer):
    """The children of a node from the last to the first, as triples (offset, label, node)."""
    labels = [""] * len(node.nodes)
    if node.alternative >= 0:
        labels = grammar.alternatives[node.alternative][2]
    found = []
    for label, child in zip(labels, node.nodes):
        # A child without a label of its own takes that of the hidden node around it.
        found.append((offset, label or outer, child))
        offset = offset + child.width
    found.reverse()
    return found


def differing(first, second):
    """The paths at which two trees differ first, in the order of a walk."""
    found = []
    # The pairs below which nothing differs, because a tree may contain one node at very many paths.
    alike = {}
    # Quadruples (link, node, node, number of paths found before what is below these nodes was compared, or -1). A
    # link is None, or a pair of the link of the node around and the index of the child.
    waiting = [(None, first, second, -1)]
    while waiting:
        link, one, other, before = waiting.pop()
        if before >= 0:
            if len(found) == before:
                alike[(one, other)] = True
        elif _compared_part(one) != _compared_part(other):
            found.append(_path_of(link))
        elif (one, other) not in alike:
            waiting.append((link, one, other, len(found)))
            for index in range(len(one.nodes) - 1, -1, -1):
                waiting.append(((link, index), one.nodes[index], other.nodes[index], -1))
    return found


def _compared_part(node):
    """The attributes in which two nodes must be equal so that they do not differ themselves."""
    width = -1 if node.nodes else node.width
    return (node.kind, node.symbol, node.state, node.alternative, node.lead, node.popped, len(node.nodes), width)


def _path_of(link):
    path = []
    while link is not None:
        link, index = link
        path.append(index)
    path.reverse()
    return tuple(path)
