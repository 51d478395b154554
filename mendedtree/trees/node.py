"""The nodes of syntax trees."""


class Node:
    """A node of a syntax tree. It has no place of its own and never changes."""

    def __init__(self, kind, symbol, *, state, lead, width, look, alternative=-1, nodes=(), popped=0):
        self.kind = kind
        self.symbol = symbol
        self.state = state
        self.lead = lead
        self.width = width
        self.look = look
        self.alternative = alternative
        self.nodes = tuple(nodes)
        self.popped = popped

    def __iter__(self):
        return iter(self.nodes)


def is_leaf(node):
    """Tells whether a node is a leaf; inner nodes and error nodes may be without children, too."""
    return node.alternative == -1 and node.kind not in ("error", "root")
