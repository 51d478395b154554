"""[4.3] and [4.4]: the same trees, and walks through trees."""

import unittest

from mendedtree.trees.node import Node, leaves, same, walk
from tests.helpers import error, inner, leaf, root

A = leaf("a", 2, lead=1)
B = leaf("b", 1)
NOTHING = inner("none")
LOST = error("sum")


def sample(**changes):
    values = dict(kind="k", symbol="s", state=1, lead=2, width=3, look=4, alternative=5, nodes=(A, NOTHING), popped=6)
    values.update(changes)
    return Node(values.pop("kind"), values.pop("symbol"), **values)


def deep(depth, bottom):
    for _ in range(depth):
        bottom = inner("s", bottom)
    return bottom


class SameTest(unittest.TestCase):
    def test_each_attribute(self):
        self.assertTrue(same(sample(), sample()))
        for change in (
            {"kind": "x"}, {"symbol": "x"}, {"state": 0}, {"lead": 0}, {"width": 0}, {"look": 0}, {"alternative": 0}, {"popped": 0},
            {"nodes": (A,)}, {"nodes": (A, NOTHING, NOTHING)}, {"nodes": (NOTHING, A)}, {"nodes": (B, NOTHING)},
        ):
            self.assertFalse(same(sample(), sample(**change)), change)
            self.assertFalse(same(sample(**change), sample()), change)

    def test_descendants(self):
        first = root(inner("s", inner("t", leaf("a", 1)), B), leaf("end", 0))
        self.assertTrue(same(first, root(inner("s", inner("t", leaf("a", 1)), leaf("b", 1)), leaf("end", 0))))
        self.assertFalse(same(first, root(inner("s", inner("t", leaf("a", 1, state=1)), B), leaf("end", 0))))
        self.assertTrue(same(first, first))

    def test_each_path_counts(self):
        first, second = leaf("a", 1), leaf("a", 1, state=3)
        self.assertTrue(same(inner("s", first, first), inner("s", leaf("a", 1), first)))
        self.assertFalse(same(inner("s", first, first), inner("s", first, second)))
        self.assertFalse(same(inner("s", first, second), inner("s", first, first)))

    def test_deep_trees(self):
        self.assertTrue(same(deep(20000, leaf("a", 1)), deep(20000, leaf("a", 1))))
        self.assertFalse(same(deep(20000, leaf("a", 1)), deep(20000, leaf("a", 1, state=1))))
        self.assertFalse(same(deep(20000, leaf("a", 1)), deep(19999, leaf("a", 1))))

    def test_a_node_at_very_many_paths(self):
        first, second = leaf("a", 1), leaf("a", 1)
        for _ in range(60):
            first, second = inner("pair", first, first), inner("pair", second, second)
        self.assertTrue(same(first, second))


class WalkTest(unittest.TestCase):
    def test_order_and_places(self):
        pair = inner("pair", A, NOTHING, B)
        lost = error("sum", pair, LOST, B, popped=1)
        end = leaf("end", 1, lead=1)
        tree = root(lost, end)
        steps = [(0, tree), (0, lost), (0, pair), (0, A), (2, NOTHING), (2, B), (3, LOST), (3, B), (4, end)]
        self.assertEqual(list(walk(tree)), steps)
        self.assertEqual(list(walk(tree, 10)), [(place + 10, node) for place, node in steps])
        self.assertEqual(list(walk(A, 3)), [(3, A)])
        self.assertEqual(leaves(tree), [(0, A), (2, B), (3, B), (4, end)])
        self.assertEqual(leaves(tree, 5), [(5, A), (7, B), (8, B), (9, end)])

    def test_leaves_are_neither_rules_nor_error_nodes_nor_roots(self):
        self.assertEqual([leaves(node) for node in (NOTHING, LOST, root())], [[], [], []])
        stray = Node("stray", "stray", state=-1, lead=0, width=1, look=1)
        self.assertEqual(leaves(stray, 1), [(1, stray)])

    def test_it_is_a_generator(self):
        steps = walk(inner("s", A))
        self.assertEqual(next(steps)[0], 0)
        self.assertEqual(next(steps), (0, A))
        self.assertIsNone(next(steps, None))

    def test_deep_trees(self):
        tree = deep(20000, B)
        self.assertEqual(len(list(walk(tree))), 20001)
        self.assertEqual(leaves(tree, 7), [(7, B)])


if __name__ == "__main__":
    unittest.main()
