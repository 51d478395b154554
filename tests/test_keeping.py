"""Part 7: usable nodes and rereading."""

import random
import time
import unittest

from mendedtree.edits.carry import Carry, carry_of
from mendedtree.edits.edit import apply
from mendedtree.edits.lists import compact
from mendedtree.grammar.notation import read_grammar
from mendedtree.keeping.reread import Reread, reread, reread_by
from mendedtree.keeping.usable import usable_nodes
from mendedtree.reading.reader import read_text
from mendedtree.tables.building import build_table
from mendedtree.trees.node import Node, same, walk
from mendedtree.trees.paths import at_path, count_nodes, height
from mendedtree.trees.stored import read_tree, write_tree
from tests.grammars import CODE, LISTS, SAMPLES, TINY, random_grammars
from tests.helpers import raised
from tests.slow_reading import random_text
from tests.slow_rereading import SlowRereading, is_known, is_usable, slow_reason

TABLE = build_table(read_grammar(TINY))
CODE_TABLE = build_table(read_grammar(CODE))
# Long rows, deep to the left or to the right.
ROWS = 'language rows\nskip [ ]\nkind n = [0-9]+\nrecover s\nrule s = s n | n\n'
CHAINS = 'language chains\nskip [ ]\nkind n = [0-9]+\nrecover s\nrule s = n s | n\n'
LINES = 'language lines\nskip [ ]\nkind w = [a-z]+\nrecover line\nrule doc = line*\nrule line = w "=" w ";"\n'


def random_edits_of(chance, grammar, text, count):
    """Edits whose new texts are made of what the kinds of a grammar match."""
    edits = []
    for _ in range(count):
        start = chance.randint(0, len(text))
        end = min(len(text), start + chance.choice([0, 0, 1, 3]))
        edits.append((start, end, chance.choice(["", random_text(chance, grammar, 2)])))
        text = apply(text, edits[-1:])
    return edits


def random_cases(seed, count, longest=12):
    """Quadruples (table, text, tree, edits)."""
    chance = random.Random(seed)
    grammars = [read_grammar(notation) for notation in SAMPLES + (LINES,)] * (count // 8) + random_grammars(seed, count // 2)
    for grammar in grammars:
        table = build_table(grammar)
        for _ in range(3):
            text = random_text(chance, grammar, longest)
            yield table, text, read_text(table, text), random_edits_of(chance, grammar, text, chance.choice([0, 1, 1, 2, 4]))


def shared(tree):
    """A tree that is the same, but in which equal nodes are one object."""
    kept = {}

    def copy(node):
        nodes = tuple(copy(child) for child in node.nodes)
        key = (node.kind, node.symbol, node.state, node.lead, node.width, node.look, node.alternative, node.popped, nodes)
        if key not in kept:
            kept[key] = Node(
                node.kind, node.symbol, state=node.state, lead=node.lead, width=node.width, look=node.look, alternative=node.alternative,
                nodes=nodes, popped=node.popped,
            )
        return kept[key]

    return copy(tree)


def shown(pairs):
    return [(*pair[:-1], write_tree(pair[-1])) for pair in pairs]


def places(pairs):
    return [(*pair[:-1], pair[-1].kind) for pair in pairs]


class UsableTest(unittest.TestCase):
    """[7.2]."""

    def test_in_the_order_of_walk(self):
        tree = read_text(TABLE, "1+22")
        found = usable_nodes(tree, carry_of(4, [(0, 0, "5+")]))
        self.assertEqual(found, [(place, place + 2, node) for place, node in walk(tree)])
        found = usable_nodes(tree, carry_of(4, [(0, 1, "7")]))
        self.assertEqual(places(found), [(1, 1, '"+"'), (2, 2, "sum"), (2, 2, "n"), (4, 4, "end")])

    def test_the_footprint_counts(self):
        tree = read_text(TABLE, "1+22")
        # The first n has the footprint "1+", and the last one reaches up to the end of the text.
        self.assertEqual(places(usable_nodes(tree, carry_of(4, [(1, 2, "+")]))), [(2, 2, "sum"), (2, 2, "n"), (4, 4, "end")])
        self.assertEqual(places(usable_nodes(tree, carry_of(4, [(4, 4, "+")]))), [(0, 0, "sum"), (0, 0, "n"), (1, 1, '"+"'), (4, 5, "end")])
        self.assertEqual(places(usable_nodes(tree, carry_of(4, [(1, 1, " ")]))), [(1, 2, '"+"'), (2, 3, "sum"), (2, 3, "n"), (4, 5, "end")])

    def test_everything_and_nothing(self):
        tree = read_text(TABLE, "1+22")
        self.assertEqual(usable_nodes(tree, carry_of(4, [])), [(place, place, node) for place, node in walk(tree)])
        found = usable_nodes(tree, carry_of(4, [(0, 4, "1+22")]))
        self.assertEqual(places(found), [(4, 4, "end")])

    def test_a_node_at_several_paths_counts_at_each(self):
        table = build_table(read_grammar('language x\nrule s = "x"*\n'))
        tree = shared(read_text(table, "xxx"))
        found = usable_nodes(tree, carry_of(3, [(3, 3, "x"), (0, 0, "x")]))
        self.assertEqual(places(found), [
            (0, 1, "s~1"), (0, 1, "s~1"), (0, 1, "s~1"), (0, 1, '"x"'), (1, 2, '"x"'), (2, 3, '"x"'), (3, 5, "end"),
        ])
        self.assertEqual(found[4][2], found[5][2])

    def test_as_the_document_says(self):
        for table, text, tree, edits in random_cases(11, 40):
            carry = carry_of(len(text), edits)
            found = usable_nodes(tree, carry)
            slow = [
                (place, carry.to_new(place), node) for place, node in walk(tree)
                if carry.to_new(place) >= 0 and is_usable(place, node, carry, carry.to_new(place))
            ]
            self.assertEqual(found, slow)


class RereadTest(unittest.TestCase):
    """[7.1], [7.3] and [7.4]."""

    def test_example(self):
        found = reread(TABLE, "1+22", read_text(TABLE, "1+22"), [(0, 1, "7")])
        self.assertIsInstance(found, Reread)
        self.assertEqual([found.text, len(found.taken), len(found.rebuilt), found.reasons], ["7+22", 3, 4, (("touched", 0),) * 4])

    def test_attributes(self):
        tree = read_text(TABLE, "1+22")
        found = reread(TABLE, "1+22", tree, [(0, 1, "7")])
        self.assertEqual(write_tree(found.tree), write_tree(read_text(TABLE, "7+22")))
        self.assertEqual((found.carry.old, found.carry.new, found.carry.runs), (4, 4, ((1, 1, 4),)))
        self.assertIsInstance(found.taken, tuple)
        self.assertIsInstance(found.rebuilt, tuple)
        self.assertIsInstance(found.reasons, tuple)
        self.assertEqual(found.taken, (
            (1, 1, at_path(tree, (0, 1))[1]), (2, 2, at_path(tree, (0, 2))[1]), (4, 4, at_path(tree, (1,))[1]),
        ))
        new = found.tree
        self.assertEqual(found.rebuilt, (
            (0, at_path(new, (0, 0, 0))[1]), (0, at_path(new, (0, 0))[1]), (0, at_path(new, (0,))[1]), (0, new),
        ))
        self.assertEqual(at_path(new, (0, 2))[1], at_path(tree, (0, 2))[1])

    def test_nothing_is_usable(self):
        found = reread(TABLE, "1", read_text(TABLE, "1"), [(1, 1, "2")])
        self.assertEqual(places(found.taken), [(1, 2, "end")])
        self.assertEqual(places(found.rebuilt), [(0, "n"), (0, "sum"), (0, "root")])
        found = reread(TABLE, "1+", read_text(TABLE, "1+"), [(0, 2, "3")])
        self.assertEqual(places(found.taken), [(2, 1, "end")])
        self.assertEqual(places(found.rebuilt), [(0, "n"), (0, "sum"), (0, "root")])
        self.assertEqual(found.reasons, (("touched", 0),) * 3)

    def test_edits_that_change_nothing_take_the_root(self):
        for text in ("", "1+22", "1+`", "+"):
            tree = read_text(TABLE, text)
            for edits in ([], [(0, 0, "")], [(len(text), len(text), "5"), (len(text), len(text) + 1, "")]):
                found = reread(TABLE, text, tree, edits)
                self.assertEqual((found.tree, found.taken, found.rebuilt, found.reasons), (tree, ((0, 0, tree),), (), ()))
                self.assertEqual(found.text, text)

    def test_the_same_character_again_is_touched(self):
        tree = read_text(TABLE, "1+22")
        found = reread(TABLE, "1+22", tree, [(0, 1, "1")])
        self.assertTrue(same(found.tree, tree))
        self.assertNotEqual(found.tree, tree)
        self.assertEqual(len(found.rebuilt), 4)

    def test_the_end_leaf_is_taken(self):
        table = build_table(read_grammar(ROWS))
        tree = read_text(table, "1 2  ")
        found = reread(table, "1 2  ", tree, [(0, 1, "3")])
        self.assertEqual(found.taken, ((1, 1, at_path(tree, (0, 1))[1]), (3, 3, tree.nodes[1])))
        self.assertEqual(found.tree.nodes[1], tree.nodes[1])
        self.assertEqual(places(found.rebuilt)[-1], (0, "root"))

    def test_the_end_leaf_is_built(self):
        table = build_table(read_grammar(ROWS))
        tree = read_text(table, "1 2  ")
        found = reread(table, "1 2  ", tree, [(4, 4, " ")])
        self.assertEqual(places(found.rebuilt), [(0, "s"), (3, "end"), (0, "root")])
        self.assertEqual(found.reasons, (("touched", 4),) * 3)
        self.assertEqual(places(found.taken), [(0, 0, "s"), (1, 1, "n")])

    def test_edits_that_do_not_fit(self):
        tree = read_text(TABLE, "1+2")
        for edits, index in (([(0, 4, "")], 0), ([(0, 3, ""), (1, 1, "")], 1), ([(0, 0, ""), (-1, 0, "")], 1), ([(2, 1, "")], 0)):
            self.assertEqual(raised(reread, TABLE, "1+2", tree, edits), ("EditError", index))

    def test_a_tree_that_is_the_same_will_do(self):
        tree = read_tree(write_tree(read_text(CODE_TABLE, "a = 1; b c = `2;")))
        found = reread(CODE_TABLE, "a = 1; b c = `2;", tree, [(0, 1, "x")])
        self.assertTrue(same(found.tree, read_text(CODE_TABLE, "x = 1; b c = `2;")))
        self.assertIn(at_path(tree, (0, 0, 1))[1], [node for _, _, node in found.taken])

    def test_as_the_document_says(self):
        for table, text, tree, edits in random_cases(12, 60):
            kept = list(edits), write_tree(tree)
            found = reread(table, text, tree, edits)
            self.assertEqual((edits, write_tree(tree)), kept)
            self.check(table, tree, found, apply(text, edits), carry_of(len(text), edits))

    def test_nodes_at_several_paths(self):
        for table, text, tree, edits in random_cases(13, 30):
            old = shared(tree)
            self.check(table, old, reread(table, text, old, edits), apply(text, edits), carry_of(len(text), edits))
            plain = reread(table, text, tree, edits)
            self.assertEqual(shown(plain.taken), shown(reread(table, text, old, edits).taken))

    def check(self, table, tree, found, text, carry):
        slow = SlowRereading(table, tree, text, carry)
        root = slow.read()
        self.assertEqual((found.text, found.carry.runs), (text, carry.runs))
        self.assertEqual(write_tree(found.tree), write_tree(read_text(table, text)))
        self.assertEqual(write_tree(root), write_tree(found.tree))
        self.assertEqual(list(found.taken), slow.taken)
        self.assertEqual(shown(found.rebuilt), shown(slow.rebuilt))
        self.assertEqual(found.reasons, tuple(slow_reason(tree, carry, place, node) for place, node in found.rebuilt))
        old = {id(node) for _, node in walk(tree)}
        self.assertFalse([node for _, node in found.rebuilt if id(node) in old])
        self.assertEqual([node for _, _, node in found.taken if id(node) not in old], [])


class ErrorTest(unittest.TestCase):
    """Rereading of texts with faults."""

    def test_skipped_leaves(self):
        table = build_table(read_grammar(LINES))
        text = "a=b; c = ; ; ` ; f=g;"
        tree = read_text(table, text)
        # The error node is rebuilt, but the skipped leaves behind the edit are taken.
        found = reread(table, text, tree, [(5, 6, "xyz")])
        self.assertTrue(same(found.tree, read_text(table, "a=b; xyz = ; ; ` ; f=g;")))
        skipped = [(old, new, node.kind) for old, new, node in found.taken if node.state == -1]
        self.assertEqual(skipped, [(8, 10, '";"'), (10, 12, '";"'), (12, 14, "stray"), (14, 16, '";"')])
        self.assertEqual([pair for pair in places(found.rebuilt) if pair[1] in ("w", "error")], [(4, "w"), (4, "error")])
        # One of them is built, because its character was replaced.
        found = reread(table, text, tree, [(5, 6, "xyz"), (13, 14, "`")])
        skipped = [(old, new, node.kind) for old, new, node in found.taken if node.state == -1]
        self.assertEqual(skipped, [(8, 10, '";"'), (12, 14, "stray"), (14, 16, '";"')])
        rebuilt = places(found.rebuilt)
        self.assertEqual(rebuilt[rebuilt.index((4, "error")) - 1], (12, "stray"))

    def test_skipped_leaves_are_built_directly_before_their_error_node(self):
        table = build_table(read_grammar(LINES))
        found = reread(table, "a=b;", read_text(table, "a=b;"), [(0, 0, "c = ` ] ; ")])
        rebuilt = places(found.rebuilt)
        at = rebuilt.index((0, "error"))
        self.assertEqual(rebuilt[at - 3:at], [(3, "stray"), (5, "stray"), (7, '";"')])

    def test_an_error_node_is_taken(self):
        table = build_table(read_grammar(LINES))
        text = "a=b; c d; f=g;"
        tree = read_text(table, text)
        found = reread(table, text, tree, [(0, 1, "xyz")])
        self.assertIn((4, 6, "error"), places(found.taken))
        self.assertEqual([node.kind for _, node in found.rebuilt if node.kind in ("error", "stray")], [])

    def test_what_tries_find_that_fail_does_not_count(self):
        notation = 'language t\nskip [ ]\nrecover e s\nkind n = [0-9]\nrule doc = s\nrule s = "a" e "]" | "b"\nrule e = n n\n'
        table = build_table(read_grammar(notation))
        text = "a 1 x y z"
        tree = read_text(table, text)
        found = reread(table, text, tree, [(2, 3, "2")])
        self.assertTrue(same(found.tree, read_text(table, "a 2 x y z")))
        for place, node in list(found.rebuilt) + [pair[1:] for pair in found.taken]:
            self.assertIn((place, node), list(walk(found.tree)))

    def test_tries_see_whether_taken_nodes_have_leaves(self):
        # The question is asked at once behind a node with a leaf, also if the node was taken.
        notation = 'language t\nskip [ ]\nrecover e\nkind n = [0-9]\nrule s = e "]"\nrule e = f n n n | n "]"\nrule f = n\n'
        table = build_table(read_grammar(notation))
        for text, edits in (("1 2 3 4", [(6, 7, "]")]), ("1 2 ] ]", [(0, 1, "3")]), ("1 ] ]", [(4, 5, "")])):
            found = reread(table, text, read_text(table, text), edits)
            self.assertTrue(same(found.tree, read_text(table, apply(text, edits))))

    def test_from_a_fault_to_none_and_back(self):
        tree = read_text(CODE_TABLE, "if a { b = 1; } c;")
        broken = reread(CODE_TABLE, "if a { b = 1; } c;", tree, [(14, 15, "")])
        mended = reread(CODE_TABLE, broken.text, broken.tree, [(14, 14, "}")])
        self.assertTrue(same(mended.tree, tree))
        self.assertTrue(same(broken.tree, read_text(CODE_TABLE, "if a { b = 1;  c;")))


class KnownTest(unittest.TestCase):
    """[7.5]."""

    def test_rebuilt_exactly_if_not_known(self):
        for table, text, tree, edits in random_cases(14, 40):
            found = reread(table, text, tree, edits)
            rebuilt = [node for _, node in found.rebuilt]
            unknown = []
            waiting = [(0, found.tree)]
            while waiting:
                place, node = waiting.pop()
                if is_known(tree, found.carry, place, node, same):
                    continue
                unknown.append((place, node))
                for child in node.nodes:
                    waiting.append((place, child))
                    place += child.width
            self.assertEqual(sorted((place, id(node)) for place, node in unknown), sorted((place, id(node)) for place, node in found.rebuilt))
            self.assertEqual(len(rebuilt), len(set(map(id, rebuilt))))

    def test_edit_by_edit(self):
        for table, text, tree, edits in random_cases(15, 40):
            at_once = reread(table, text, tree, edits)
            built = {}
            last, last_text = tree, text
            for edit in edits:
                step = reread(table, last_text, last, [edit])
                built.update({id(node): node for _, node in step.rebuilt})
                last, last_text = step.tree, step.text
            self.assertTrue(same(last, at_once.tree))
            new = {id(node) for _, node in at_once.rebuilt}
            waiting = [(last, at_once.tree)]
            while waiting:
                one, other = waiting.pop()
                if id(other) in new:
                    self.assertIn(id(one), built)
                waiting.extend(zip(one.nodes, other.nodes))

    def test_compact_edits(self):
        for table, text, tree, edits in random_cases(16, 40):
            one, other = reread(table, text, tree, edits), reread(table, text, tree, compact(text, edits))
            self.assertEqual(one.taken, other.taken)
            self.assertEqual(shown(one.rebuilt), shown(other.rebuilt))
            self.assertEqual(one.reasons, other.reasons)


class ReasonsTest(unittest.TestCase):
    """[7.6]."""

    def test_touched_at_the_first_place_that_does_not_follow(self):
        tree = read_text(TABLE, "123+45")
        # The characters 1 and 3 survive, but 3 does not follow 1.
        found = reread(TABLE, "123+45", tree, [(1, 2, "")])
        self.assertEqual(found.text, "13+45")
        self.assertEqual(places(found.rebuilt), [(0, "n"), (0, "sum"), (0, "sum"), (0, "root")])
        self.assertEqual(found.reasons, (("touched", 1),) * 4)
        found = reread(TABLE, "123+45", tree, [(1, 2, "2")])
        self.assertEqual(found.reasons, (("touched", 1),) * 4)
        found = reread(TABLE, "123+45", tree, [(0, 0, "9")])
        self.assertEqual(found.reasons, (("touched", 0),) * 4)

    def test_the_last_character_of_the_footprint(self):
        tree = read_text(TABLE, "12+3")
        found = reread(TABLE, "12+3", tree, [(2, 3, "+")])
        self.assertEqual(list(zip(places(found.rebuilt), found.reasons)), [
            ((0, "n"), ("touched", 2)), ((0, "sum"), ("touched", 2)), ((2, '"+"'), ("touched", 2)), ((0, "sum"), ("touched", 2)),
            ((0, "root"), ("touched", 2)),
        ])

    def test_state(self):
        table = build_table(read_grammar('language s\nskip [ ]\nkind n = [0-9]\nrule s = "a" n | "b" n "!" | "c" "+" n\n'))
        found = reread(table, "a 5", read_text(table, "a 5"), [(0, 1, "b")])
        self.assertEqual(places(found.taken), [(3, 3, "end")])
        reasons = dict(zip(places(found.rebuilt), found.reasons))
        self.assertEqual(reasons[(1, "n")], ("state", 1))
        found = reread(table, "a 5", read_text(table, "a 5"), [(0, 1, "c +")])
        self.assertEqual(dict(zip(places(found.rebuilt), found.reasons))[(3, "n")], ("state", 1))

    def test_the_end_of_the_text(self):
        found = reread(TABLE, "1", read_text(TABLE, "1"), [(0, 1, "")])
        self.assertEqual(list(zip(places(found.rebuilt), found.reasons)), [((0, "error"), ("state", 1)), ((0, "root"), ("state", 1))])
        self.assertEqual(places(found.taken), [(1, 0, "end")])


class CarryByHandTest(unittest.TestCase):
    """[7.1]: `reread_by`."""

    def test_carries_that_were_made_by_hand(self):
        text = "a=b; c=d; e=f;"
        table = build_table(read_grammar(LINES))
        tree = read_text(table, text)
        for new, runs in (
            ("c=d; a=b;", ((5, 0, 4), (14, 9, 1))), (text, ((0, 0, 15),)), (text, ((14, 14, 1),)), (text, ((0, 0, 3), (5, 5, 10))),
            (" e=f; e=f;", ((9, 5, 6),)), ("a=b; e=f;", ((0, 0, 4), (9, 4, 6))), ("a=b; e=f;", ((0, 0, 5), (10, 5, 5))), ("", ((14, 0, 1),)),
        ):
            carry = Carry(len(text), len(new), runs)
            found = reread_by(table, tree, new, carry)
            self.assertEqual((found.text, found.carry), (new, carry))
            RereadTest.check(self, table, tree, found, new, carry)

    def test_random_carries(self):
        chance = random.Random(17)
        for table, text, tree, edits in random_cases(18, 30):
            carry = carry_of(len(text), edits)
            kept = tuple(self.parts_of(chance, carry.runs))
            carry = Carry(carry.old, carry.new, kept)
            RereadTest.check(self, table, tree, reread_by(table, tree, apply(text, edits), carry), apply(text, edits), carry)

    def parts_of(self, chance, runs):
        """Some of the runs, some of them shorter; the last run stays."""
        for old, new, count in runs[:-1]:
            if chance.random() < 0.7:
                first = chance.randint(0, count - 1)
                yield old + first, new + first, chance.randint(1, count - first)
        old, new, count = runs[-1]
        first = chance.randint(0, count - 1)
        # A run that would grow together with the one before it is not as long as possible.
        yield old + count - 1, new + count - 1, 1

    def test_as_reread_does(self):
        for table, text, tree, edits in random_cases(19, 20):
            one, other = reread(table, text, tree, edits), reread_by(table, tree, apply(text, edits), carry_of(len(text), edits))
            self.assertEqual((one.text, one.taken, one.reasons), (other.text, other.taken, other.reasons))


class SizeTest(unittest.TestCase):
    """[0.6] and [4.12]."""

    def test_deep_trees(self):
        for notation in (ROWS, CHAINS):
            table = build_table(read_grammar(notation))
            text = "1 " * 1000
            tree = read_text(table, text)
            self.assertGreater(height(tree), 1000)
            for place in (0, 999, 1998):
                found = reread(table, text, tree, [(place, place, "7")])
                self.assertTrue(same(found.tree, read_text(table, found.text)))
                self.assertLess(len(found.taken) + len(found.rebuilt), 3010)
            self.assertEqual(len(usable_nodes(tree, carry_of(2000, []))), count_nodes(tree))

    def test_many_edits(self):
        chance = random.Random(20)
        text = "if a < 1 { b = c(2, 3); } # note\n" * 60
        tree = read_text(CODE_TABLE, text)
        edits = random_edits_of(chance, read_grammar(CODE), text, 200)
        begin = time.process_time()
        found = reread(CODE_TABLE, text, tree, edits)
        self.assertLess(time.process_time() - begin, 5)
        self.assertTrue(same(found.tree, read_text(CODE_TABLE, found.text)))
        self.assertEqual(found.text, apply(text, edits))

    def test_few_nodes_are_built_for_a_small_edit(self):
        text = "if a < 1 { b = c(2, 3); } # note\n" * 60
        tree = read_text(CODE_TABLE, text)
        found = reread(CODE_TABLE, text, tree, [(0, 2, "if ")])
        self.assertLess(len(found.rebuilt), count_nodes(tree) // 5)


if __name__ == "__main__":
    unittest.main()
