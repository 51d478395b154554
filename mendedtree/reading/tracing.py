"""The errors in a tree, and the steps by which it was built."""

from mendedtree.trees.node import is_leaf, placed_nodes


def error_nodes(tree):
    """The pairs (place, node) of all error nodes of a tree that are not inside another one."""
    found = []
    waiting = [(0, tree)]
    while waiting:
        place, node = waiting.pop()
        if node.kind == "error":
            found.append((place, node))
        else:
            waiting.extend(placed_nodes(node.nodes, place))
    return found


def trace(table, tree):
    """The steps by which the text of a tree is read, as triples (place, top, action)."""
    return [(place, top, action) for place, top, action, _ in steps_of(table, tree, 0)]


def steps_of(table, node, place):
    """The steps that build a node that stands at a place, as quadruples (place, top, action, node that is built)."""
    steps = []
    # Triples (place, node, whether the steps of its children were taken).
    waiting = [(place, node, False)]
    while waiting:
        begin, last, is_built = waiting.pop()
        nodes = _stacked(last)
        if is_built or not nodes:
            at = begin + sum([child.width for child in nodes])
            steps.append((at, _top_behind(table, last, nodes), _action_of(last), last))
        else:
            waiting.append((begin, last, True))
            waiting.extend([(start, child, False) for start, child in placed_nodes(nodes, begin)])
    return steps


def _stacked(node):
    """The children that stood on the stack when a node was built."""
    if node.kind == "error":
        return node.nodes[:node.popped]
    if node.kind == "root":
        return node.nodes[:1]
    return node.nodes


def _top_behind(table, node, nodes):
    """The top of the stack at the step that builds a node, which has the children that stood on the stack."""
    if not nodes:
        return node.state
    return table.behind(nodes[-1].state, nodes[-1])


def _action_of(node):
    """The action of the step that builds a node."""
    if node.kind == "error":
        return ("recover", node.symbol, node.popped, len(node.nodes) - node.popped)
    if node.kind in ("root", "end"):
        return ("accept",)
    if is_leaf(node):
        return ("shift", node.kind)
    return ("reduce", node.alternative)
