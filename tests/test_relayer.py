"""[9.7] to [9.10]: layers of edited texts."""

import random
import time
import unittest

from mendedtree.edits.carry import Carry, carry_of
from mendedtree.edits.edit import apply
from mendedtree.inner.layer import layer_at, read_layers
from mendedtree.inner.relayer import Relayer, count_rebuilt, layer_carry, reread_layers
from mendedtree.keeping.reread import Reread, reread_by
from mendedtree.trees.node import same, walk
from mendedtree.trees.paths import count_nodes
from tests.helpers import raised
from tests.languages import SHELF, carry_of_moved, slow_carry
from tests.test_keeping import shown
from tests.test_layers import random_nest, random_page


def pages(text):
    return read_layers(SHELF, "page", text)


def random_layer_edits(chance, text, make, count):
    edits = []
    for _ in range(count):
        start = chance.randint(0, len(text))
        end = min(len(text), start + chance.choice([0, 0, 1, 3]))
        edits.append((start, end, chance.choice(["", make(chance, 2)])))
        text = apply(text, edits[-1:])
    return edits


def random_cases(seed, count):
    """Triples (layer, edits, layer of the text after the edits)."""
    chance = random.Random(seed)
    for _ in range(count):
        language, make = chance.choice([("page", random_page), ("nest", random_nest)])
        text = make(chance)
        edits = random_layer_edits(chance, text, make, chance.choice([0, 1, 1, 2, 3]))
        yield read_layers(SHELF, language, text), edits, read_layers(SHELF, language, apply(text, edits))


def runs(carry):
    return carry.old, carry.new, carry.runs


def all_layers(layer, path=()):
    yield path, layer
    for index, inner in enumerate(layer.layers):
        yield from all_layers(inner, path + (index,))


class LayerCarryTest(unittest.TestCase):
    """[9.7]."""

    def check(self, old_text, edits, expected):
        old, new = pages(old_text), pages(apply(old_text, edits))
        carry = layer_carry(old.layers[0], new.layers[0], carry_of(len(old_text), edits))
        self.assertIsInstance(carry, Carry)
        self.assertEqual(runs(carry), expected)

    def test_nothing_changes(self):
        self.check("{1+2}a{3}", [], (5, 5, ((0, 0, 6),)))

    def test_characters(self):
        self.check("{1+2}a{3}", [(1, 2, "45")], (5, 6, ((1, 2, 5),)))
        self.check("{1+2}a{3}", [(2, 2, "0")], (5, 6, ((0, 0, 1), (1, 2, 5))))
        self.check("{1+2}a{3}", [(7, 8, "4")], (5, 5, ((0, 0, 4), (5, 5, 1))))

    def test_what_is_around_the_pieces_plays_no_part(self):
        self.check("{1+2}a{3}", [(5, 6, "bc"), (0, 0, "d")], (5, 5, ((0, 0, 6),)))
        self.check("{1+2}a{3}", [(4, 7, "} {")], (5, 5, ((0, 0, 6),)))

    def test_a_seam_follows_the_character_before_it(self):
        # A new piece between the two: the seam behind the first piece stays, but 3 does not follow it.
        self.check("{1}{3}", [(3, 3, "{2}")], (3, 5, ((0, 0, 2), (2, 4, 2))))
        # The second piece is gone, and with it the seam.
        self.check("{1}{3}", [(3, 6, "")], (3, 1, ((0, 0, 1), (3, 1, 1))))
        # The first piece is gone, and with it the seam.
        self.check("{1}{3}", [(0, 3, "")], (3, 1, ((2, 0, 2),)))
        # The last character of the first piece is removed; the seam goes with it, although a seam is there.
        self.check("{12}{3}", [(2, 3, "")], (4, 3, ((0, 0, 1), (3, 2, 2))))
        # A character is put in before the seam.
        self.check("{1}{3}", [(2, 2, "2")], (3, 4, ((0, 0, 1), (2, 3, 2))))

    def test_pieces_that_grow_together_or_are_parted(self):
        self.check("{1}{3}", [(2, 4, "+")], (3, 3, ((0, 0, 1), (2, 2, 2))))
        self.check("{1+3}", [(2, 3, "}{")], (3, 3, ((0, 0, 1), (2, 2, 2))))
        self.check("{1+3}", [(2, 2, "}a{")], (3, 4, ((0, 0, 1), (1, 2, 3))))

    def test_newlines_that_are_no_seams(self):
        old, new = read_layers(SHELF, "nest", "(a)(b)"), read_layers(SHELF, "nest", "(a\nb)")
        carry = layer_carry(old.layers[0], new.layers[0], Carry(6, 5, ((0, 0, 2), (4, 3, 3))))
        self.assertEqual(runs(carry), (3, 3, ((0, 0, 1), (2, 2, 2))))

    def test_characters_that_leave_the_pieces(self):
        old, new = pages("{a}{b}"), pages("a{b}")
        carry = layer_carry(old.layers[0], new.layers[0], carry_of(6, [(2, 3, ""), (0, 1, "")]))
        self.assertEqual(runs(carry), (3, 1, ((2, 0, 2),)))

    def test_as_the_document_says(self):
        compared = 0
        for old, edits, new in random_cases(51, 250):
            carry = carry_of(len(old.text), edits)
            for one in old.layers:
                for other in new.layers:
                    if one.language == other.language:
                        expected = carry_of_moved(slow_carry(one.pieces, other.pieces, carry), len(other.text))
                        self.assertEqual(runs(layer_carry(one, other, carry)), runs(expected))
                        compared += 1
        self.assertGreater(compared, 100)


class RereadLayersTest(unittest.TestCase):
    """[9.8] to [9.10]."""

    def test_attributes(self):
        old = pages("a {1} ['x']")
        found = reread_layers(SHELF, old, [(3, 4, "2+3")])
        self.assertIsInstance(found, Relayer)
        self.assertIsInstance(found.rereads, tuple)
        self.assertEqual(found.fresh, ())
        self.assertEqual([path for path, _ in found.rereads], [(), (0,), (1,), (2,), (2, 0)])
        for path, again in found.rereads:
            self.assertIsInstance(again, Reread)
            layer = layer_at(found.layer, path)
            self.assertEqual((layer.tree, layer.text), (again.tree, again.text))
        self.assertEqual([inner.text for inner in found.layer.layers], ["2+3", "'x'", "'x'"])

    def test_layers_that_nothing_touched(self):
        old = pages("a {1} ['x']")
        found = reread_layers(SHELF, old, [(0, 1, "bcd")])
        self.assertEqual([path for path, _ in found.rereads], [(), (0,), (1,), (2,), (2, 0)])
        for path, again in found.rereads[1:]:
            self.assertEqual((again.rebuilt, again.tree), ((), layer_at(old, path).tree))
            self.assertEqual(again.taken, ((0, 0, again.tree),))
        self.assertEqual(found.layer.layers[0].pieces, ((5, 6),))

    def test_an_empty_list_of_edits(self):
        old = pages("a {1}")
        found = reread_layers(SHELF, old, [])
        self.assertEqual(found.layer.tree, old.tree)
        self.assertEqual((count_rebuilt(found), found.fresh), (0, ()))
        self.assertEqual([path for path, _ in found.rereads], [(), (0,)])

    def test_fresh_layers(self):
        old = pages("a {1}")
        found = reread_layers(SHELF, old, [(0, 1, "[b 'c 2' {3}]")])
        self.assertEqual([path for path, _ in found.rereads], [(), (0,)])
        self.assertEqual([inner.language for inner in found.layer.layers], ["tiny", "names", "page"])
        self.assertEqual(found.fresh, ((1,), (1, 0), (2,), (2, 0), (2, 1), (2, 1, 0)))
        self.assertEqual(count_rebuilt(found), sum(len(again.rebuilt) for _, again in found.rereads) + sum(
            count_nodes(layer_at(found.layer, path).tree) for path in found.fresh
        ))

    def test_layers_that_are_gone(self):
        found = reread_layers(SHELF, pages("a {1} 'b'"), [(2, 5, "")])
        self.assertEqual([inner.language for inner in found.layer.layers], ["names"])
        # The layer of names had the index 1, and is reread all the same.
        self.assertEqual(([path for path, _ in found.rereads], found.fresh), ([(), (0,)], ()))
        self.assertEqual(found.rereads[1][1].rebuilt, ())

    def test_a_layer_that_moves_to_another_depth_is_fresh(self):
        found = reread_layers(SHELF, pages("{1}"), [(0, 0, "["), (4, 4, "]")])
        self.assertEqual([(path, inner.language) for path, inner in all_layers(found.layer)], [((), "page"), ((0,), "tiny"), ((1,), "page"), ((1, 0), "tiny")])
        self.assertEqual(([path for path, _ in found.rereads], found.fresh), ([(), (0,)], ((1,), (1, 0))))

    def test_edits_that_do_not_fit(self):
        old = pages("a {1}")
        for edits, index in (([(0, 6, "")], 0), ([(0, 5, ""), (1, 1, "")], 1), ([(-1, 0, "")], 0)):
            self.assertEqual(raised(reread_layers, SHELF, old, edits), ("EditError", index))

    def test_the_outermost_language_alone(self):
        found = reread_layers(SHELF, read_layers(SHELF, "tiny", "1+2"), [(0, 1, "3")])
        self.assertEqual((found.layer.pieces, found.layer.layers, [path for path, _ in found.rereads]), (((0, 3),), (), [()]))
        self.assertEqual(count_rebuilt(found), len(found.rereads[0][1].rebuilt))

    def test_old_layers_stay_as_they_were(self):
        old = pages("a {1} ['x']")
        before = [(path, layer.text, layer.pieces, layer.tree) for path, layer in all_layers(old)]
        edits = [(0, 2, "{9}")]
        reread_layers(SHELF, old, edits)
        self.assertEqual([(path, layer.text, layer.pieces, layer.tree) for path, layer in all_layers(old)], before)
        self.assertEqual(edits, [(0, 2, "{9}")])

    def test_as_read_layers_does(self):
        for old, edits, new in random_cases(52, 250):
            found = reread_layers(SHELF, old, edits)
            self.check_equal(found.layer, new)
            self.check_rereads(old, found, carry_of(len(old.text), edits))
            again = sum(len(each.rebuilt) for _, each in found.rereads)
            self.assertEqual(count_rebuilt(found), again + sum(count_nodes(layer_at(new, path).tree) for path in found.fresh))

    def check_equal(self, one, other):
        self.assertEqual((one.language, one.pieces, one.text), (other.language, other.pieces, other.text))
        self.assertTrue(same(one.tree, other.tree))
        self.assertEqual(len(one.layers), len(other.layers))
        for inner, each in zip(one.layers, other.layers):
            self.check_equal(inner, each)

    def check_rereads(self, old, found, carry):
        """Follows [9.8] word by word."""
        rereads, fresh = dict(found.rereads), []
        expected = {(): (old, carry)}
        for path, layer in all_layers(found.layer):
            if path:
                around = expected.get(path[:-1])
                matching = [inner for inner in around[0].layers if inner.language == layer.language] if around else []
                if not matching:
                    fresh.append(path)
                    continue
                expected[path] = (matching[0], layer_carry(matching[0], layer, around[1]))
            before, inner_carry = expected[path]
            again = reread_by(SHELF.table_of(layer.language), before.tree, layer.text, inner_carry)
            self.assertEqual(rereads[path].tree, layer.tree)
            self.assertEqual((rereads[path].taken, rereads[path].reasons), (again.taken, again.reasons))
            self.assertEqual(shown(rereads[path].rebuilt), shown(again.rebuilt))
            self.assertEqual(runs(rereads[path].carry), runs(inner_carry))
        self.assertEqual(list(found.fresh), fresh)
        self.assertEqual([path for path, _ in found.rereads], list(expected))
        paths = [path for path, _ in all_layers(found.layer)]
        self.assertEqual(paths, sorted(paths))

    def test_nodes_of_an_inner_tree_that_survive_are_not_rebuilt(self):
        # [9.9]: everything around the pieces is replaced.
        old = pages("a{1+2}b{3}c")
        found = reread_layers(SHELF, old, [(10, 11, "dd "), (6, 7, "e 'f' "), (0, 1, "")])
        self.assertEqual(found.layer.layers[0].tree, old.layers[0].tree)
        # A piece is put in between: the nodes of the other pieces that its characters do not touch stay.
        found = reread_layers(SHELF, old, [(6, 6, "{9}")])
        kept = {id(node) for _, node in walk(old.layers[0].tree)} & {id(node) for _, node in walk(found.layer.layers[0].tree)}
        self.assertGreaterEqual(len(kept), 4)

    def test_a_long_text(self):
        old = pages("{1+2}['a 1']\n" * 150)
        begin = time.process_time()
        edits = [(13 * k + 1, 13 * k + 2, "7") for k in range(0, 150, 2)]
        found = reread_layers(SHELF, old, edits)
        self.assertLess(time.process_time() - begin, 5)
        self.check_equal(found.layer, pages(apply(old.text, edits)))


if __name__ == "__main__":
    unittest.main()
