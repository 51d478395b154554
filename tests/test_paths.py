"""[4.1], [4.2], [4.5] to [4.7], [4.10], [4.12]: nodes, paths and sizes."""

import unittest

from mendedtree.errors import NoNode
from mendedtree.trees.node import Node
from mendedtree.trees.paths import at_path, count_nodes, height, path_to, source
from tests.helpers import error, inner, leaf, raised, root

# The text is " ab+ c  " with a space at its beginning, before "c" and twice at its end.
TEXT = " ab+ c  "
AB = leaf("name", 3, lead=1)
PLUS = leaf('"+"', 1)
C = leaf("name", 2, lead=1)
NOTHING = inner("none")
LOST = error("sum")
SUM = inner("sum", AB, NOTHING, PLUS, LOST, C)
END = leaf("end", 2, lead=2)
TREE = root(SUM, END)


def deep_tree(depth):
    node = leaf("x", 1)
    for _ in range(depth):
        node = inner("s", NOTHING, node)
    return node


class NodeTest(unittest.TestCase):
    def test_attributes(self):
        node = Node("sum", "sum", state=3, lead=1, width=6, look=8, alternative=2, nodes=(AB, PLUS), popped=0)
        self.assertEqual((node.kind, node.symbol, node.state, node.lead, node.width), ("sum", "sum", 3, 1, 6))
        self.assertEqual((node.look, node.alternative, node.nodes, node.popped), (8, 2, (AB, PLUS), 0))

    def test_defaults(self):
        node = Node("error", "sum", state=3, lead=0, width=0, look=1)
        self.assertEqual((node.kind, node.symbol, node.alternative, node.nodes, node.popped), ("error", "sum", -1, (), 0))

    def test_iteration(self):
        self.assertEqual(list(SUM), list(SUM.nodes))
        self.assertEqual([child.width for child in SUM], [3, 0, 1, 0, 2])
        self.assertEqual(list(AB), [])


class AtPathTest(unittest.TestCase):
    def test_paths(self):
        self.assertEqual(at_path(TREE, ()), (0, TREE))
        self.assertEqual(at_path(TREE, (0,)), (0, SUM))
        self.assertEqual(at_path(TREE, (0, 0)), (0, AB))
        self.assertEqual(at_path(TREE, (0, 1)), (3, NOTHING))
        self.assertEqual(at_path(TREE, (0, 2)), (3, PLUS))
        self.assertEqual(at_path(TREE, (0, 3)), (4, LOST))
        self.assertEqual(at_path(TREE, (0, 4)), (4, C))
        self.assertEqual(at_path(TREE, (1,)), (6, END))

    def test_places(self):
        self.assertEqual(at_path(SUM, (2,), 10), (13, PLUS))
        self.assertEqual(at_path(AB, (), 7), (7, AB))

    def test_no_node(self):
        for path in ((2,), (0, 5), (0, 0, 0), (-1,), (0, -1), (0, -5), (1, 0), (0, 3, 0)):
            self.assertEqual(raised(at_path, TREE, path), ("NoNode", path))

    def test_one_node_at_two_paths(self):
        twice = inner("pair", C, C)
        self.assertEqual(at_path(twice, (0,)), (0, C))
        self.assertEqual(at_path(twice, (1,)), (2, C))
        self.assertEqual(path_to(twice, 1), (0,))
        self.assertEqual(path_to(twice, 2), (1,))

    def test_deep_tree(self):
        tree = deep_tree(5000)
        self.assertEqual(at_path(tree, (1,) * 5000, 3)[0], 3)
        self.assertEqual(at_path(tree, (1,) * 5000)[1].kind, "x")
        self.assertEqual(raised(at_path, tree, (1,) * 5001), ("NoNode", (1,) * 5001))


class PathToTest(unittest.TestCase):
    def test_each_place(self):
        paths = [path_to(TREE, place) for place in range(9)]
        self.assertEqual(paths, [(0, 0)] * 3 + [(0, 2)] + [(0, 4)] * 2 + [(1,)] * 3)

    def test_inner_nodes_and_leaves(self):
        self.assertEqual(path_to(SUM, 5), (4,))
        self.assertEqual(path_to(AB, 0), ())
        self.assertEqual(path_to(AB, 2), ())

    def test_places_out_of_range(self):
        for node, place in ((TREE, -1), (TREE, 9), (SUM, 6), (SUM, -1), (AB, 3), (NOTHING, 0), (LOST, 0), (LOST, 1), (END, 2)):
            self.assertEqual(raised(path_to, node, place), ("NoNode", ()))

    def test_characters_without_a_leaf(self):
        hollow = Node("error", "s", state=0, lead=0, width=2, look=3)
        self.assertEqual(raised(path_to, root(hollow, leaf("end", 0)), 1), ("NoNode", ()))

    def test_empty_text(self):
        tree = root(NOTHING, leaf("end", 0))
        self.assertEqual(path_to(tree, 0), (1,))
        self.assertEqual(raised(path_to, tree, 1), ("NoNode", ()))

    def test_error_node_with_leaves(self):
        tree = root(error("s", PLUS, leaf("stray", 2, lead=1, state=-1), popped=1), leaf("end", 0))
        self.assertEqual([path_to(tree, place) for place in range(4)], [(0, 0), (0, 1), (0, 1), (1,)])

    def test_deep_tree(self):
        self.assertEqual(path_to(deep_tree(5000), 0), (1,) * 5000)


class SourceTest(unittest.TestCase):
    def test_sources(self):
        self.assertEqual(source(AB, 0, TEXT), "ab")
        self.assertEqual(source(C, 4, TEXT), "c")
        self.assertEqual(source(SUM, 0, TEXT), "ab+ c")
        self.assertEqual(source(NOTHING, 3, TEXT), "")
        self.assertEqual(source(LOST, 4, TEXT), "")
        self.assertEqual(source(END, 6, TEXT), "")
        self.assertEqual(source(PLUS, 2, "ab+"), "+")


class SizeTest(unittest.TestCase):
    def test_sizes(self):
        for node, count, levels in ((AB, 1, 1), (LOST, 1, 1), (NOTHING, 1, 1), (SUM, 6, 2), (TREE, 8, 3)):
            self.assertEqual((count_nodes(node), height(node)), (count, levels))

    def test_deep_tree(self):
        tree = deep_tree(5000)
        self.assertEqual((count_nodes(tree), height(tree)), (10001, 5001))

    def test_one_node_at_several_paths(self):
        self.assertEqual(count_nodes(inner("pair", SUM, inner("one", SUM), SUM)), 20)
        node = AB
        for _ in range(60):
            node = inner("pair", node, node)
        self.assertEqual((count_nodes(node), height(node)), (2 ** 61 - 1, 61))


if __name__ == "__main__":
    unittest.main()
