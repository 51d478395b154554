"""Asking trees."""

from mendedtree.asking.matching import Matcher, captured_texts, holds


def ask(grammar, query, tree, text):
    """The answers of a query in the tree of a text, as triples (index, place, captures)."""
    return Asker(grammar, query).search(tree, text)


class Asker:
    """Asks one tree after the other, and keeps what it found at the nodes that they have in common."""

    def __init__(self, grammar, query):
        self._tests = [tests for _, tests in query]
        self._matcher = Matcher(grammar, [form for form, _ in query])
        # The nodes of the tree that was asked last, as keys.
        self._known = {}
        self.asked = 0

    def search(self, tree, text):
        """The answers of the query in the tree of a text, as `ask` returns them."""
        answers = []
        for place, node in self._matcher.seen_nodes(tree):
            for index, tests in enumerate(self._tests):
                for binding in self._matcher.bindings(index, node):
                    if _all_hold(tests, binding, place, text):
                        answers.append((index, place, _captures(binding, place)))
        nodes = _nodes_of(tree)
        self.asked = len([node for node in nodes if node not in self._known])
        self._known = nodes
        self._matcher.keep_only(nodes)
        return answers


def _all_hold(tests, binding, place, text):
    """Tells whether all tests hold for a binding at a node that stands at a place."""
    if not tests:
        return True
    texts = captured_texts(binding, place, text)
    return all([holds(test, texts) for test in tests])


def _captures(binding, place):
    """The triples (capture, start, end) of a binding at a node that stands at a place."""
    return tuple([(name, place + offset + node.lead, place + offset + node.width) for name, offset, node in binding])


def _nodes_of(tree):
    """The different nodes of a tree, as keys."""
    nodes = {tree: True}
    waiting = [tree]
    while waiting:
        last = waiting.pop()
        for child in last.nodes:
            if child not in nodes:
                nodes[child] = True
                waiting.append(child)
    return nodes
