"""[0.2] and [0.3]: nothing is changed by a call, and what is returned is new."""

import copy
import unittest

from mendedtree.edits.carry import carry_of
from mendedtree.edits.edit import apply, fits, inverse
from mendedtree.errors import MendedError
from mendedtree.grammar.notation import read_grammar
from mendedtree.grammar.writing import write_grammar
from mendedtree.reading.reader import read_from, read_text
from mendedtree.reading.tracing import error_nodes, trace
from mendedtree.reading.witness import witness
from mendedtree.tables.building import build_table
from mendedtree.tables.stored import read_table, write_table
from mendedtree.trees.node import leaves, same
from mendedtree.trees.seeing import differing, seen
from mendedtree.trees.stored import read_tree, write_tree
from tests.grammars import CODE, TINY

GRAMMAR = read_grammar(CODE)
TABLE = build_table(GRAMMAR)
TEXT = "if a < { b = 1 ` ; } c;"


class ReturnedTest(unittest.TestCase):
    def test_lists_are_new(self):
        tree = read_text(TABLE, TEXT)
        edits = [(0, 2, "x"), (3, 3, "")]
        for function, arguments in (
            (leaves, (tree,)), (error_nodes, (tree,)), (trace, (TABLE, tree)), (read_from, (TABLE, "a=1;", 0, 0)), (seen, (GRAMMAR, tree)),
            (differing, (tree, read_text(TABLE, "a;"))), (inverse, (TEXT, edits)),
        ):
            found = function(*arguments)
            self.assertIsInstance(found, list)
            self.assertTrue(found)
            count = len(found)
            found.clear()
            self.assertEqual(len(function(*arguments)), count)

    def test_offers_are_new(self):
        for state in range(3):
            before = list(TABLE.offers(state).items())
            TABLE.offers(state).clear()
            self.assertEqual(list(TABLE.offers(state).items()), before)
            read_text(TABLE, TEXT)
            self.assertEqual(list(TABLE.offers(state).items()), before)


class ArgumentsTest(unittest.TestCase):
    def test_lists_of_edits(self):
        edits = [(0, 2, "x"), (3, 3, "y")]
        kept = copy.deepcopy(edits)
        fits(9, edits), apply(TEXT, edits), inverse(TEXT, edits), carry_of(len(TEXT), edits)
        self.assertEqual(edits, kept)

    def test_trees_grammars_and_tables(self):
        tree = read_text(TABLE, TEXT)
        written, grammar, table = write_tree(tree), write_grammar(GRAMMAR), write_table(TABLE)
        trace(TABLE, tree), error_nodes(tree), differing(tree, tree), same(tree, tree), seen(GRAMMAR, tree)
        witness(TABLE, TEXT, (0,), 5), read_from(TABLE, TEXT, 3, 1), build_table(GRAMMAR), read_table(GRAMMAR, table)
        self.assertEqual((write_tree(tree), write_grammar(GRAMMAR), write_table(TABLE)), (written, grammar, table))

    def test_after_an_error(self):
        tiny = build_table(read_grammar(TINY))
        before = write_table(tiny), tiny.clashes
        for function, arguments in (
            (witness, (tiny, "1+2", (7,), 0)), (witness, (tiny, "1+2", (), 9)), (read_table, (tiny.grammar, "state 1\n")), (read_tree, ("(a",)),
            (apply, ("abc", [(0, 1, "x"), (9, 9, "")])), (carry_of, (3, [(0, 1, "x"), (9, 9, "")])),
        ):
            with self.assertRaises(MendedError):
                function(*arguments)
        self.assertEqual((write_table(tiny), tiny.clashes), before)


if __name__ == "__main__":
    unittest.main()
