"""[4.8] and [4.9]: where trees differ, and seen children."""

import random
import unittest

from mendedtree.grammar.notation import read_grammar
from mendedtree.reading.reader import read_text
from mendedtree.tables.building import build_table
from mendedtree.trees.node import Node
from mendedtree.trees.paths import at_path
from mendedtree.trees.seeing import differing, seen
from tests.grammars import CODE, random_grammars
from tests.helpers import error, inner, leaf, root
from tests.slow_reading import random_text

A = leaf("a", 2)
B = leaf("b", 1)


def node(**changes):
    values = dict(kind="k", symbol="s", state=1, lead=2, width=3, look=4, alternative=5, nodes=(A, B), popped=0)
    values.update(changes)
    return Node(values.pop("kind"), values.pop("symbol"), **values)


def slow_differing(first, second, path=()):
    names = ("kind", "symbol", "state", "alternative", "lead", "popped")
    if any(getattr(first, name) != getattr(second, name) for name in names) or len(first.nodes) != len(second.nodes):
        return [path]
    if not first.nodes and first.width != second.width:
        return [path]
    found = []
    for index, pair in enumerate(zip(first.nodes, second.nodes)):
        found += slow_differing(*pair, path + (index,))
    return found


class DifferingTest(unittest.TestCase):
    def test_each_attribute(self):
        self.assertEqual(differing(node(), node()), [])
        for change in (
            {"kind": "x"}, {"symbol": "x"}, {"state": 0}, {"alternative": 0}, {"lead": 0}, {"popped": 1}, {"nodes": (A,)}, {"nodes": ()},
            {"nodes": (A, B, B)},
        ):
            self.assertEqual(differing(node(), node(**change)), [()], change)
            self.assertEqual(differing(inner("s", A, node(**change)), inner("s", A, node())), [(1,)], change)

    def test_looks_and_widths(self):
        self.assertEqual(differing(node(look=9), node()), [])
        self.assertEqual(differing(node(width=9), node()), [])
        self.assertEqual(differing(node(nodes=(), width=9), node(nodes=())), [()])
        self.assertEqual(differing(leaf("a", 1), leaf("a", 2)), [()])
        self.assertEqual(differing(error("s", leaf("a", 1)), error("s", leaf("a", 2))), [(0,)])

    def test_the_order_of_a_walk(self):
        first = root(inner("s", A, inner("t", A, B), B), inner("u", A))
        second = root(inner("s", B, inner("t", A, A), B), inner("u", A, A))
        self.assertEqual(differing(first, second), [(0, 0), (0, 1, 1), (1,)])
        self.assertEqual(differing(first, first), [])

    def test_nothing_below_nodes_that_differ(self):
        first = inner("s", inner("t", A, B), A)
        second = inner("s", inner("t", B, A, alternative=3), A)
        self.assertEqual(differing(first, second), [(0,)])

    def test_a_node_at_several_paths(self):
        pair, other = inner("t", A, B), inner("t", A, A)
        self.assertEqual(differing(inner("s", pair, pair, pair), inner("s", other, pair, other)), [(0, 1), (2, 1)])
        first, second = leaf("a", 1), leaf("a", 1)
        for _ in range(60):
            first, second = inner("pair", first, first), inner("pair", second, second)
        self.assertEqual(differing(first, second), [])
        self.assertEqual(differing(inner("s", first, A), inner("s", second, B)), [(1,)])

    def test_deep_trees(self):
        first, second = A, B
        for _ in range(20000):
            first, second = inner("s", first), inner("s", second)
        self.assertEqual(differing(first, second), [(0,) * 20000])
        self.assertEqual(differing(inner("s", first, A), inner("s", first, B)), [(1,)])

    def test_against_a_recursive_search(self):
        chance = random.Random(3)
        for grammar in [read_grammar(CODE)] * 10 + random_grammars(31, 30):
            table = build_table(grammar)
            for _ in range(5):
                text = random_text(chance, grammar, 8)
                place = chance.randint(0, len(text))
                first, second = read_text(table, text), read_text(table, text[:place] + chance.choice("x1 `") + text[place:])
                self.assertEqual(differing(first, second), slow_differing(first, second))


class SeenTest(unittest.TestCase):
    def test_trees_of_texts(self):
        grammar = read_grammar(CODE)
        table = build_table(grammar)
        tree = read_text(table, "a=f(1,b);")
        self.assertEqual([(offset, label, child.kind) for offset, label, child in seen(grammar, tree)], [(0, "", "doc"), (9, "", "end")])
        doc = tree.nodes[0]
        self.assertEqual([(offset, label, child.kind) for offset, label, child in seen(grammar, doc)], [(0, "", "stat")])
        stat = seen(grammar, doc)[0][2]
        kinds = [(offset, label, child.kind) for offset, label, child in seen(grammar, stat)]
        self.assertEqual(kinds, [(0, "name", "word"), (1, "", '"="'), (2, "value", "expr"), (8, "", '";"')])
        call = at_path(seen(grammar, stat)[2][2], (0,))[1]
        kinds = [(offset, child.kind) for offset, _, child in seen(grammar, call)]
        self.assertEqual(kinds, [(0, "word"), (1, '"("'), (2, "expr"), (3, '","'), (4, "expr"), (5, '")"')])

    def test_error_nodes(self):
        grammar = read_grammar(CODE)
        tree = read_text(build_table(grammar), "if a < {}")
        stat = seen(grammar, tree.nodes[0])[0][2]
        found = [(offset, label, child.kind, child.symbol) for offset, label, child in seen(grammar, stat)]
        self.assertEqual(found, [(0, "", '"if"', '"if"'), (2, "test", "error", "expr"), (6, "then", "block", "block")])
        lost = seen(grammar, stat)[1][2]
        self.assertEqual([(offset, label, child.kind) for offset, label, child in seen(grammar, lost)], [(0, "", "expr"), (2, "", '"<"')])


if __name__ == "__main__":
    unittest.main()
