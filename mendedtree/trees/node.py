"""The nodes of syntax trees."""


class Node:
    """A node of a syntax tree. It has no place of its own and never changes."""

    def __init__(self, kind, symbol, *, state, lead, width, look, alternative=-1, nodes=(), popped=0):
        self.kind = kind
        self.symbol = symbol
        self.state = state
        self.lead = lead
        self.width = width
        self.look = look
        self.alternative = alternative
        self.nodes = tuple(nodes)
        self.popped = popped

    def __iter__(self):
        return iter(self.nodes)


def is_leaf(node):
    """Tells whether a node is a leaf; inner nodes and error nodes may be without children, too."""
    return node.alternative == -1 and node.kind not in ("error", "root")


def has_leaf(node):
    """Tells whether a node has a leaf that is not inside an error node; it may be that leaf itself."""
    waiting = [node]
    while waiting:
        last = waiting.pop()
        if is_leaf(last):
            return True
        if last.kind != "error":
            waiting.extend(list(last.nodes))
    return False


def same(first, second):
    """Tells whether two trees have equal attributes at all paths."""
    # Pairs are compared once only, because a tree may contain one node at very many paths.
    compared = {(first, second): True}
    waiting = [(first, second)]
    while waiting:
        one, other = waiting.pop()
        if one == other:
            # This is one object, for nodes have no equality of their own.
            continue
        if _attributes(one) != _attributes(other):
            return False
        for pair in zip(one.nodes, other.nodes):
            if pair not in compared:
                compared[pair] = True
                waiting.append(pair)
    return True


def _attributes(node):
    """All attributes of a node, with the number of its children instead of the children themselves."""
    numbers = (node.state, node.lead, node.width, node.look, node.alternative, len(node.nodes), node.popped)
    return (node.kind, node.symbol, *numbers)


def walk(node, place=0):
    """Yields the pairs (place, node) of a node that stands at a place and all its descendants, outer nodes first."""
    waiting = [(place, node)]
    while waiting:
        begin, last = waiting.pop()
        yield begin, last
        waiting.extend(placed_nodes(last.nodes, begin))


def placed_nodes(nodes, place):
    """The pairs (place, node) of nodes that stand one behind the other from a place on, from the last to the first."""
    found = []
    for node in nodes:
        found.append((place, node))
        place = place + node.width
    found.reverse()
    return found


def leaves(node, place=0):
    """The pairs (place, leaf) of all leaves of a node that stands at a place, in their order."""
    return [(begin, each) for begin, each in walk(node, place) if is_leaf(each)]
