"""[5.8] and [5.13]: error nodes, and the steps of a reading."""

import random
import unittest

from mendedtree.grammar.notation import read_grammar
from mendedtree.reading.reader import read_text
from mendedtree.reading.tracing import error_nodes, trace
from mendedtree.tables.building import build_table
from mendedtree.trees.stored import read_tree, write_tree
from tests.grammars import CODE, LISTS, SAMPLES, TINY, random_grammars
from tests.helpers import error, inner, leaf, root
from tests.slow_reading import SlowReading, random_text

TABLE = build_table(read_grammar(TINY))
A = leaf("a", 2)


class ErrorNodesTest(unittest.TestCase):
    def test_order_and_places(self):
        first, second, third = error("s", A), error("t"), error("s", A, error("t", A))
        tree = root(inner("s", A, inner("t", first, second), third), leaf("end", 0))
        self.assertEqual(error_nodes(tree), [(2, first), (4, second), (4, third)])

    def test_the_tree_itself(self):
        lost = error("s", error("s", A))
        self.assertEqual(error_nodes(lost), [(0, lost)])

    def test_none(self):
        self.assertEqual(error_nodes(read_text(TABLE, "1+2")), [])
        self.assertEqual(error_nodes(A), [])

    def test_deep_trees(self):
        tree = error("s", A)
        for _ in range(20000):
            tree = inner("s", A, tree)
        self.assertEqual([place for place, _ in error_nodes(tree)], [40000])


class TraceTest(unittest.TestCase):
    def test_shifts_and_reductions(self):
        self.assertEqual(trace(TABLE, read_text(TABLE, "1+22")), [
            (0, 0, ("shift", "n")), (1, 1, ("reduce", 1)), (1, 2, ("shift", '"+"')), (2, 3, ("shift", "n")), (4, 1, ("reduce", 1)),
            (4, 4, ("reduce", 0)), (4, 2, ("accept",)),
        ])

    def test_recoveries(self):
        self.assertEqual(trace(TABLE, read_text(TABLE, "1+`3")), [
            (0, 0, ("shift", "n")), (1, 1, ("reduce", 1)), (1, 2, ("shift", '"+"')), (2, 3, ("recover", "sum", 2, 2)), (4, 2, ("accept",)),
        ])
        self.assertEqual(trace(TABLE, read_text(TABLE, "")), [(0, 0, ("recover", "sum", 0, 0)), (0, 2, ("accept",))])

    def test_reductions_of_nothing(self):
        table = build_table(read_grammar('language e\nskip [ ]\nrule s = t "x" t\nrule t = \n'))
        steps = trace(table, read_text(table, " x "))
        self.assertEqual([(place, action) for place, _, action in steps], [
            (0, ("reduce", 1)), (0, ("shift", '"x"')), (2, ("reduce", 1)), (2, ("reduce", 0)), (2, ("accept",)),
        ])

    def test_errors_within_errors(self):
        table = build_table(read_grammar('language a\nrecover e s\nrule s = "(" e ";" e ")"\nrule e = "n"\n'))
        steps = trace(table, read_text(table, "(m;m;"))
        self.assertEqual([(place, action) for place, _, action in steps], [
            (0, ("shift", '"("')), (1, ("recover", "e", 0, 1)), (2, ("shift", '";"')), (3, ("recover", "e", 2, 1)), (4, ("shift", '";"')),
            (5, ("recover", "s", 3, 0)), (5, ("accept",)),
        ])

    def test_trees_that_are_the_same(self):
        table = build_table(read_grammar(CODE))
        tree = read_text(table, "if a < { b = 1 ` ; } c;")
        self.assertEqual(trace(table, read_tree(write_tree(tree))), trace(table, tree))

    def test_against_a_slow_reading(self):
        chance = random.Random(41)
        for grammar in [read_grammar(notation) for notation in SAMPLES] * 20 + random_grammars(42, 200):
            table = build_table(grammar)
            text = random_text(chance, grammar, 10)
            slow = SlowReading(table, text)
            slow.read()
            self.assertEqual(trace(table, read_text(table, text)), slow.steps)

    def test_deep_trees(self):
        table = build_table(read_grammar(LISTS))
        text = "[" * 1000 + "]" * 1000
        steps = trace(table, read_text(table, text))
        self.assertEqual(steps.count((2000, table.goto(0, "list"), ("accept",))), 1)
        self.assertEqual(len([step for step in steps if step[2][0] == "shift"]), 2000)


if __name__ == "__main__":
    unittest.main()
