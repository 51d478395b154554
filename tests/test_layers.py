"""[9.1] to [9.6]: shelves, layers and places in them."""

import random
import unittest

from mendedtree.errors import MendedError
from mendedtree.inner.layer import Layer, innermost, layer_at, outermost, read_layers
from mendedtree.inner.shelf import Shelf
from mendedtree.trees.node import same
from mendedtree.trees.stored import write_tree
from tests.helpers import raised
from tests.languages import NAMES_TABLE, NEST_TABLE, PAGE_TABLE, SHELF, TINY_TABLE, slow_items, slow_layers, table_of

HOST = 'language host\nkind raw = [^{}]+\nkind code = [0-9+]+\ninner code tiny\nrule doc = (raw | "{" code "}")*\n'


def random_page(chance, longest=14):
    words = ["a", "b c", "{", "}", "[", "]", "'", "1", "+", "12", " ", "\n", "{1+2}", "['x 3']", "`", "[{3}]", "'ab 12'", "[a [b [c [d]]]]"]
    return "".join(chance.choice(words) for _ in range(chance.randint(0, longest)))


def random_nest(chance, longest=14):
    words = ["(", ")", "a", "b", " ", "\n", "(a)", "((b))", "`"]
    return "".join(chance.choice(words) for _ in range(chance.randint(0, longest)))


class ShelfTest(unittest.TestCase):
    """[9.1]."""

    def test_tables(self):
        shelf = Shelf([TINY_TABLE, PAGE_TABLE])
        self.assertEqual(shelf.languages, ("tiny", "page"))
        self.assertEqual((shelf.table_of("tiny"), shelf.table_of("page")), (TINY_TABLE, PAGE_TABLE))
        self.assertEqual(raised(shelf.table_of, "names"), ("UnknownLanguage", "names"))
        self.assertEqual(raised(shelf.table_of, ""), ("UnknownLanguage", ""))

    def test_the_list_is_copied(self):
        tables = [TINY_TABLE]
        shelf = Shelf(tables)
        tables.append(PAGE_TABLE)
        self.assertEqual(shelf.languages, ("tiny",))
        self.assertEqual(raised(shelf.table_of, "page"), ("UnknownLanguage", "page"))

    def test_an_empty_shelf(self):
        self.assertEqual(Shelf([]).languages, ())
        self.assertEqual(raised(read_layers, Shelf([]), "tiny", "1"), ("UnknownLanguage", "tiny"))


class ReadTest(unittest.TestCase):
    """[9.2] to [9.5]."""

    def test_example(self):
        shelf = Shelf([table_of(HOST), TINY_TABLE])
        inner = read_layers(shelf, "host", "a{1+2}b{3}").layers[0]
        found = [inner.language, inner.pieces, inner.text, inner.to_outer(4), inner.to_inner(8)]
        self.assertEqual(found, ["tiny", ((2, 5), (8, 9)), "1+2\n3", 8, 4])

    def test_attributes(self):
        layer = read_layers(SHELF, "page", "a {1}")
        self.assertIsInstance(layer, Layer)
        self.assertEqual((layer.language, layer.pieces, layer.text), ("page", ((0, 5),), "a {1}"))
        self.assertIsInstance(layer.layers, tuple)
        self.assertEqual([inner.language for inner in layer.layers], ["tiny"])
        self.assertEqual(layer.tree.kind, "root")
        self.assertEqual((layer.layers[0].layers, layer.layers[0].tree.width), ((), 1))

    def test_an_empty_text(self):
        layer = read_layers(SHELF, "page", "")
        self.assertEqual((layer.pieces, layer.text, layer.layers, layer.tree.width), (((0, 0),), "", (), 0))

    def test_unknown_languages(self):
        for language in ("missing", "", "Tiny"):
            self.assertEqual(raised(read_layers, SHELF, language, "1"), ("UnknownLanguage", language))
        # An inner language that is not on the shelf has no layers.
        layer = read_layers(Shelf([PAGE_TABLE]), "page", "{1} 'a' [b]")
        self.assertEqual([inner.language for inner in layer.layers], ["page"])
        self.assertEqual([inner.language for inner in read_layers(SHELF, "names", "a 12").layers], ["tiny"])

    def test_stretches_are_without_leads(self):
        layer = read_layers(SHELF, "page", "{  1 + 2 } {   3}")
        self.assertEqual(layer.layers[0].pieces, ((3, 9), (15, 16)))
        self.assertEqual(layer.layers[0].text, "1 + 2 \n3")
        # The stretch of an inner node begins behind the lead of its first leaf.
        self.assertEqual(read_layers(SHELF, "page", "[  a {1} ]").layers[1].pieces, ((3, 8),))

    def test_stretches_without_characters_are_left_out(self):
        self.assertEqual(read_layers(SHELF, "page", "[]").layers, ())
        self.assertEqual(read_layers(SHELF, "page", "[ ]").layers, ())
        layer = read_layers(SHELF, "page", "[][a][]")
        self.assertEqual([(inner.language, inner.pieces) for inner in layer.layers], [("page", ((3, 4),))])

    def test_nodes_inside_a_node_of_the_same_language(self):
        layer = read_layers(SHELF, "page", "[a [b] {1}] {2}")
        self.assertEqual([(inner.language, inner.pieces) for inner in layer.layers], [("tiny", ((8, 9), (13, 14))), ("page", ((1, 10),))])
        page = layer.layers[1]
        self.assertEqual([(inner.language, inner.pieces) for inner in page.layers], [("tiny", ((7, 8),)), ("page", ((3, 4),))])

    def test_error_nodes_are_no_pieces_but_what_is_inside_them(self):
        # The brackets are not closed: the error node stands for an item, and the page inside it is a piece.
        text = "[a {1} `"
        layer = read_layers(SHELF, "page", text)
        expected = slow_layers(SHELF, "page", text)
        self.assertEqual([inner.pieces for inner in layer.layers], [inner[1] for inner in expected[4]])
        self.assertIn("(error item", write_tree(layer.tree))
        self.assertTrue(layer.layers)
        # The symbol of the error node in the parentheses has an inner language, but its kind is error.
        layer = read_layers(SHELF, "nest", "(a ` b)")
        self.assertIn("(error in", write_tree(layer.tree))
        self.assertNotIn((1, 6), [piece for inner in layer.layers for piece in inner.pieces])

    def test_skipped_leaves_count(self):
        shelf = Shelf([table_of('language lost\nskip [ ]\nkind n = [0-9]+\nkind w = [a-z]+\ninner n tiny\nrule s = w ";" | n\n'), TINY_TABLE])
        layer = read_layers(shelf, "lost", "a  12 ` 3")
        self.assertIn("(n n -1 2 4", write_tree(layer.tree))
        self.assertEqual([(inner.language, inner.text, inner.pieces) for inner in layer.layers], [("tiny", "12\n3", ((3, 5), (8, 9)))])

    def test_the_order_of_the_languages(self):
        layer = read_layers(SHELF, "page", "[x] 'a' {1}")
        self.assertEqual([inner.language for inner in layer.layers], ["tiny", "names", "page"])
        self.assertEqual([inner.language for inner in read_layers(SHELF, "page", "[x] 'a'").layers], ["names", "page"])

    def test_one_language_by_several_symbols(self):
        # The language nest belongs to the rule in and to the kind b.
        layer = read_layers(SHELF, "nest", "b (a) (b) b")
        self.assertEqual([(inner.language, inner.text) for inner in layer.layers], [("nest", "b\na\nb\nb")])

    def test_depth(self):
        layer = read_layers(SHELF, "nest", "((((a))))")
        texts = []
        while layer.layers:
            texts.append(layer.text)
            (layer,) = layer.layers
        self.assertEqual(texts + [layer.text], ["((((a))))", "(((a)))", "((a))", "(a)"])

    def test_as_the_document_says(self):
        chance = random.Random(41)
        for _ in range(250):
            language, text = chance.choice([("page", random_page(chance)), ("nest", random_nest(chance)), ("names", random_page(chance))])
            self.check(read_layers(SHELF, language, text), slow_layers(SHELF, language, text))

    def check(self, layer, expected):
        language, pieces, text, tree, layers = expected
        self.assertEqual((layer.language, layer.pieces, layer.text), (language, pieces, text))
        self.assertTrue(same(layer.tree, tree))
        self.assertEqual(len(layer.layers), len(layers))
        for inner, each in zip(layer.layers, layers):
            self.check(inner, each)

    def test_a_long_text(self):
        layer = read_layers(SHELF, "page", "{1+2}['a 1']\n" * 150)
        self.assertEqual([len(inner.pieces) for inner in layer.layers], [150, 150, 150])


class PlacesTest(unittest.TestCase):
    """[9.6]."""

    def setUp(self):
        self.layer = read_layers(SHELF, "page", "a{1+2}b{3}'x 4'")
        self.tiny, self.names = self.layer.layers

    def test_to_outer(self):
        self.assertEqual(self.tiny.text, "1+2\n3")
        self.assertEqual([self.tiny.to_outer(index) for index in range(-1, 7)], [-1, 2, 3, 4, -1, 8, -1, -1])
        self.assertEqual([self.layer.to_outer(index) for index in (-1, 0, 14, 15, 16)], [-1, 0, 14, -1, -1])

    def test_to_inner(self):
        self.assertEqual([self.tiny.to_inner(place) for place in range(-1, 12)], [-1, -1, -1, 0, 1, 2, -1, -1, -1, 4, -1, -1, -1])
        self.assertEqual([self.layer.to_inner(place) for place in (-1, 0, 14, 15, 16)], [-1, 0, 14, -1, -1])

    def test_layer_at(self):
        self.assertEqual(layer_at(self.layer, ()), self.layer)
        self.assertEqual(layer_at(self.layer, (0,)), self.tiny)
        self.assertEqual(layer_at(self.layer, (1, 0)), self.names.layers[0])
        for path in ((2,), (-1,), (0, 0), (1, 1), (1, -1), (1, 0, 0)):
            self.assertEqual(raised(layer_at, self.layer, path), ("NoLayer", path))
            self.assertEqual(raised(outermost, self.layer, path, 0), ("NoLayer", path))

    def test_outermost(self):
        self.assertEqual([outermost(self.layer, (), index) for index in (0, 14, 15, -1)], [0, 14, -1, -1])
        self.assertEqual([outermost(self.layer, (0,), index) for index in range(6)], [2, 3, 4, -1, 8, -1])
        self.assertEqual([outermost(self.layer, (1, 0), index) for index in range(3)], [13, -1, -1])

    def test_innermost(self):
        self.assertEqual([innermost(self.layer, place) for place in (0, 2, 8, 10, 13, 14, 15)], [
            ((), 0), ((0,), 0), ((0,), 4), ((1,), 0), ((1, 0), 0), ((1,), 4), ((), 15),
        ])
        self.assertEqual(innermost(read_layers(SHELF, "page", ""), 0), ((), 0))

    def test_the_first_inner_layer_is_entered(self):
        # The sum in the page belongs to the layer of sums and to that of the page; the former is the first one.
        layer = read_layers(SHELF, "page", "[a {1}]")
        self.assertEqual([inner.language for inner in layer.layers], ["tiny", "page"])
        self.assertEqual([innermost(layer, place) for place in (1, 4, 5)], [((1,), 0), ((0,), 0), ((1,), 4)])

    def test_there_and_back(self):
        chance = random.Random(42)
        for _ in range(120):
            language, text = chance.choice([("page", random_page(chance)), ("nest", random_nest(chance))])
            layer = read_layers(SHELF, language, text)
            for place in range(len(text)):
                path, index = innermost(layer, place)
                self.assertEqual(outermost(layer, path, index), place)
                self.assertFalse([inner for inner in layer_at(layer, path).layers if inner.to_inner(index) >= 0])
            self.check_items(layer)

    def check_items(self, layer):
        for inner in layer.layers:
            items = slow_items(inner.pieces)
            self.assertEqual(len(items), len(inner.text) + 1)
            self.assertEqual([inner.to_outer(index) for index in range(len(items))], [-1 if item in ("seam", "end") else item for item in items])
            for place in range(len(layer.text) + 1):
                self.assertEqual(inner.to_inner(place), items.index(place) if place in items else -1)
            self.check_items(inner)

    def test_seams_and_newlines(self):
        layer = read_layers(SHELF, "nest", "(a \n b)(a)")
        inner = layer.layers[0]
        self.assertEqual(inner.text, "a \n b\na")
        self.assertEqual([inner.to_outer(index) for index in range(8)], [1, 2, 3, 4, 5, -1, 8, -1])


class OtherTest(unittest.TestCase):
    def test_all_tables_have_layers_of_their_own_language_at_most_three_deep(self):
        self.assertEqual([table.grammar.name for table in (PAGE_TABLE, NAMES_TABLE, NEST_TABLE)], ["page", "names", "nest"])
        with self.assertRaises(MendedError):
            layer_at(read_layers(SHELF, "nest", "(((((a)))))"), (0, 0, 0, 0))


if __name__ == "__main__":
    unittest.main()
