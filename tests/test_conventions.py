"""[0.2] and [0.3]: nothing is changed by a call, and what is returned is new."""

import copy
import unittest

from mendedtree.asking.asker import Asker, ask
from mendedtree.asking.queries import read_query
from mendedtree.asking.written import write_query
from mendedtree.edits.carry import carry_of
from mendedtree.edits.edit import apply, fits, inverse
from mendedtree.edits.lists import compact, swap_lists
from mendedtree.edits.rope import Rope, fresh_pieces
from mendedtree.errors import MendedError
from mendedtree.grammar.notation import read_grammar
from mendedtree.grammar.writing import write_grammar
from mendedtree.history.desk import Desk
from mendedtree.history.kepttable import KeptTable
from mendedtree.inner.layer import innermost, read_layers
from mendedtree.inner.relayer import count_rebuilt, reread_layers
from mendedtree.inner.shelf import Shelf
from mendedtree.keeping.reread import reread
from mendedtree.keeping.usable import usable_nodes
from mendedtree.reading.reader import read_from, read_text
from mendedtree.reading.tracing import error_nodes, trace
from mendedtree.reading.witness import witness
from mendedtree.tables.building import build_table
from mendedtree.tables.stored import read_table, write_table
from mendedtree.trees.node import leaves, same
from mendedtree.trees.seeing import differing, seen
from mendedtree.trees.stored import read_tree, write_tree
from tests.grammars import CODE, TINY

GRAMMAR = read_grammar(CODE)
TABLE = build_table(GRAMMAR)
TEXT = "if a < { b = 1 ` ; } c;"


class ReturnedTest(unittest.TestCase):
    def test_lists_are_new(self):
        tree = read_text(TABLE, TEXT)
        edits = [(0, 2, "x"), (3, 3, "")]
        for function, arguments in (
            (leaves, (tree,)), (error_nodes, (tree,)), (trace, (TABLE, tree)), (read_from, (TABLE, "a=1;", 0, 0)), (seen, (GRAMMAR, tree)),
            (differing, (tree, read_text(TABLE, "a;"))), (inverse, (TEXT, edits)), (compact, (TEXT, edits)), (usable_nodes, (tree, carry_of(len(TEXT), edits))),
            (ask, (GRAMMAR, read_query(GRAMMAR, "word @a"), tree, TEXT)), (Asker(GRAMMAR, read_query(GRAMMAR, "word @a")).search, (tree, TEXT)),
            (KeptTable.empty().put("a", 1).pairs, ()),
        ):
            found = function(*arguments)
            self.assertIsInstance(found, list)
            self.assertTrue(found)
            count = len(found)
            found.clear()
            self.assertEqual(len(function(*arguments)), count)

    def test_offers_are_new(self):
        for state in range(3):
            before = list(TABLE.offers(state).items())
            TABLE.offers(state).clear()
            self.assertEqual(list(TABLE.offers(state).items()), before)
            read_text(TABLE, TEXT)
            self.assertEqual(list(TABLE.offers(state).items()), before)


class ArgumentsTest(unittest.TestCase):
    def test_lists_of_edits(self):
        edits = [(0, 2, "x"), (3, 3, "y")]
        kept = copy.deepcopy(edits)
        fits(9, edits), apply(TEXT, edits), inverse(TEXT, edits), carry_of(len(TEXT), edits), compact(TEXT, edits), swap_lists(edits, [(20, 20, "z")])
        Rope.of(TEXT).edited(edits), reread(TABLE, TEXT, read_text(TABLE, TEXT), edits), Desk(Shelf([TABLE]), "code", TEXT).edit(edits)
        reread_layers(Shelf([TABLE]), read_layers(Shelf([TABLE]), "code", TEXT), edits)
        self.assertEqual(edits, kept)

    def test_trees_grammars_and_tables(self):
        tree = read_text(TABLE, TEXT)
        written, grammar, table = write_tree(tree), write_grammar(GRAMMAR), write_table(TABLE)
        trace(TABLE, tree), error_nodes(tree), differing(tree, tree), same(tree, tree), seen(GRAMMAR, tree)
        witness(TABLE, TEXT, (0,), 5), read_from(TABLE, TEXT, 3, 1), build_table(GRAMMAR), read_table(GRAMMAR, table)
        self.assertEqual((write_tree(tree), write_grammar(GRAMMAR), write_table(TABLE)), (written, grammar, table))
        reread(TABLE, TEXT, tree, [(3, 4, "b")]), usable_nodes(tree, carry_of(len(TEXT), [(3, 4, "b")]))
        query = read_query(GRAMMAR, '(stat >> word @a) #not @a "c" error')
        form = write_query(query)
        ask(GRAMMAR, query, tree, TEXT), Asker(GRAMMAR, query).search(tree, TEXT)
        self.assertEqual((write_tree(tree), write_grammar(GRAMMAR), write_table(TABLE)), (written, grammar, table))
        self.assertEqual((write_query(query), query), (form, read_query(GRAMMAR, form)))

    def test_layers_and_ropes(self):
        shelf = Shelf([TABLE])
        layer = read_layers(shelf, "code", TEXT)
        before = (layer.language, layer.pieces, layer.text, layer.layers, layer.tree, write_tree(layer.tree))
        count_rebuilt(reread_layers(shelf, layer, [(0, 1, "x")])), innermost(layer, 3)
        self.assertEqual((layer.language, layer.pieces, layer.text, layer.layers, layer.tree, write_tree(layer.tree)), before)
        rope = Rope.of(TEXT)
        rope.cut(3, 9), rope.joined(rope), rope.edited([(2, 5, "abc")]), fresh_pieces(rope, rope)
        self.assertEqual((rope.whole(), rope.size, fresh_pieces(rope, Rope.of(TEXT))), (TEXT, len(TEXT), 2))

    def test_after_an_error(self):
        tiny = build_table(read_grammar(TINY))
        before = write_table(tiny), tiny.clashes
        for function, arguments in (
            (witness, (tiny, "1+2", (7,), 0)), (witness, (tiny, "1+2", (), 9)), (read_table, (tiny.grammar, "state 1\n")), (read_tree, ("(a",)),
            (apply, ("abc", [(0, 1, "x"), (9, 9, "")])), (carry_of, (3, [(0, 1, "x"), (9, 9, "")])), (compact, ("abc", [(9, 9, "")])),
            (reread, (tiny, "1+2", read_text(tiny, "1+2"), [(9, 9, "")])), (read_query, (tiny.grammar, "(sum")), (Rope.of("abc").edited, ([(9, 9, "")],)),
            (swap_lists, ([(0, 0, "ab")], [(1, 1, "")])), (Desk, (Shelf([tiny]), "other", "")), (Desk.restored, (Shelf([tiny]), "tiny", "1", [])),
        ):
            with self.assertRaises(MendedError):
                function(*arguments)
        self.assertEqual((write_table(tiny), tiny.clashes), before)


if __name__ == "__main__":
    unittest.main()
