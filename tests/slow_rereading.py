"""Rereading as [7.2], [7.3] and [7.6] say it, slowly."""

from mendedtree.trees.node import Node, walk
from tests.slow_reading import SlowReading, holds_leaf


def is_usable(place, node, carry, new_place):
    """[7.2] for a node that stands at an old place, and a new place."""
    survives = carry.to_new(place) == new_place
    return survives and all(carry.to_new(place + k) == new_place + k for k in range(node.look))


class SlowRereading(SlowReading):
    def __init__(self, table, old_tree, text, carry):
        SlowReading.__init__(self, table, text)
        self.carry = carry
        self.old = list(walk(old_tree))
        self.taken = []
        self.rebuilt = []

    def first_usable(self, state, place):
        """The outermost usable node as a pair (old place, node), or None."""
        for old_place, node in self.old:
            if node.state == state and is_usable(old_place, node, self.carry, place):
                return old_place, node
        return None

    def read(self):
        while True:
            found = self.first_usable(self.stack[-1][0], self.place)
            if found is None:
                stopped = self.step()
            else:
                stopped = self.take_node(*found)
                if isinstance(stopped, Node):
                    return stopped
            if stopped == ("accept",):
                return self.accept()
            if stopped is not None:
                _, skipped, end, far = self.attempt([], 0, self.place, False)
                self.mend(0, self.grammar.rules[0], skipped, end, max(far, stopped))

    def take_node(self, old_place, node):
        self.taken.append((old_place, self.place, node))
        if node.kind == "root":
            return node
        self.take(("take",), self.place + node.look)
        if node.kind == "end":
            self.place += node.width
            return self.build("root", "root", 1, [node])
        self.place += node.width
        self.push(node)
        return None

    def known_leaf(self, place):
        found = self.first_usable(-1, place)
        return None if found is None else found[1]

    def mend(self, depth, rule, skipped, end, far):
        place = self.place
        for leaf in skipped:
            found = self.first_usable(-1, place)
            if found is not None:
                self.taken.append((found[0], place, leaf))
            else:
                self.rebuilt.append((place, leaf))
            place += leaf.width
        SlowReading.mend(self, depth, rule, skipped, end, far)

    def push(self, node):
        if all(node != taken[2] or self.stack[-1][1] != taken[1] for taken in self.taken):
            self.rebuilt.append((self.stack[-1][1], node))
        SlowReading.push(self, node)

    def build(self, kind, symbol, count, more=(), **values):
        node = SlowReading.build(self, kind, symbol, count, more, **values)
        if kind == "root":
            end = more[0]
            if all(end != taken[2] for taken in self.taken):
                self.rebuilt.append((self.place, end))
            self.rebuilt.append((0, node))
        return node


def slow_reason(old_tree, carry, place, node):
    """[7.6] for a node of the new tree that was rebuilt."""
    items = [carry.to_old(place + k) for k in range(node.look)]
    for k, old in enumerate(items):
        if old < 0 or (k > 0 and old != items[k - 1] + 1):
            return ("touched", place + k)
    if carry.to_old(place) < 0:
        return ("touched", place)
    old = carry.to_old(place)
    assert all(begin != old or other.state != node.state for begin, other in walk(old_tree))
    return ("state", old)


def is_known(old_tree, carry, place, node, same):
    """[7.5]: whether an old node that is usable for the state and the place of a new node is the same as it."""
    for old_place, other in walk(old_tree):
        if other.state == node.state and is_usable(old_place, other, carry, place) and same(other, node):
            return True
    return False
