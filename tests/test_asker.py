"""[8.3] to [8.5], [8.9] and [8.10]: answers, and askers that keep what they found."""

import random
import time
import unittest

from mendedtree.asking.asker import Asker, ask
from mendedtree.asking.queries import read_query
from mendedtree.grammar.notation import read_grammar
from mendedtree.keeping.reread import reread
from mendedtree.reading.reader import read_text
from mendedtree.tables.building import build_table
from mendedtree.trees.node import walk
from mendedtree.trees.paths import count_nodes, source
from mendedtree.trees.seeing import seen
from mendedtree.trees.stored import read_tree, write_tree
from tests.grammars import CODE, LISTS, TINY
from tests.slow_reading import random_text
from tests.test_forms import slow_bindings
from tests.test_keeping import CHAINS, ROWS, random_edits_of, shared
from tests.test_written_queries import RandomQuery

TABLE = build_table(read_grammar(TINY))
CODE_TABLE = build_table(read_grammar(CODE))
CODE_GRAMMAR = CODE_TABLE.grammar
TEXT = "a = b + 1; # note\nif a < 2 { b = f(a, b); } else { a; }\n"


def answers(notation, text, table=CODE_TABLE):
    return ask(table.grammar, read_query(table.grammar, notation), read_text(table, text), text)


def found_texts(notation, text, table=CODE_TABLE):
    """For each answer the texts of its captures."""
    return [[text[start:end] for _, start, end in captures] for _, _, captures in answers(notation, text, table)]


def seen_nodes(grammar, node, place):
    yield place, node
    for offset, _, child in seen(grammar, node):
        yield from seen_nodes(grammar, child, place + offset)


def slow_test(test, binding, place, text):
    texts = {name: source(node, place + offset, text) for name, offset, node in binding}
    word, first, other = test
    if first not in texts or (word in ("same", "differ") and other not in texts):
        return False
    compared = other if word in ("is", "not") else texts[other]
    return (texts[first] == compared) == (word in ("is", "same"))


def slow_answers(grammar, query, tree, text):
    """The answers as [8.5] says them."""
    found = []
    for place, node in seen_nodes(grammar, tree, 0):
        for index, (form, tests) in enumerate(query):
            for binding in slow_bindings(form, node, grammar):
                if all(slow_test(test, binding, place, text) for test in tests):
                    captures = tuple((name, place + offset + each.lead, place + offset + each.width) for name, offset, each in binding)
                    found.append((index, place, captures))
    return found


class AskTest(unittest.TestCase):
    """[8.3] to [8.5], [8.9]."""

    def test_example(self):
        text = "1+22"
        self.assertEqual(answers('(sum . sum @a "+" sum @b .) #differ @a @b', text, TABLE), [(0, 0, (("a", 0, 1), ("b", 2, 4)))])

    def test_places_and_leads(self):
        self.assertEqual(answers("word @a", " a ;\n b;"), [(0, 0, (("a", 1, 2),)), (0, 4, (("a", 6, 7),))])
        self.assertEqual(answers("(stat name:word @w value:_ @v) @s", " a = 1 ;"), [(0, 0, (("s", 1, 8), ("w", 1, 2), ("v", 5, 6)))])
        self.assertEqual(answers("end @e root @r", " \n"), [(1, 0, (("r", 2, 2),)), (0, 0, (("e", 2, 2),))])

    def test_the_root_and_the_end(self):
        self.assertEqual(answers("root @r", " a; "), [(0, 0, (("r", 1, 4),))])
        self.assertEqual(answers("end @e", " a; "), [(0, 3, (("e", 4, 4),))])
        self.assertEqual(answers("(root . doc . end .)", "a;"), [(0, 0, ())])

    def test_the_order_of_answers(self):
        # Nodes first, then the pairs of the query, then the bindings.
        self.assertEqual(answers('[n "+"] @x (sum . _ @a) (sum _ @b)', "1+2", TABLE), [
            (1, 0, (("a", 0, 1),)), (2, 0, (("b", 0, 1),)), (2, 0, (("b", 1, 2),)), (2, 0, (("b", 2, 3),)), (1, 0, (("a", 0, 1),)), (2, 0, (("b", 0, 1),)),
            (0, 0, (("x", 0, 1),)), (0, 1, (("x", 1, 2),)), (1, 2, (("a", 2, 3),)), (2, 2, (("b", 2, 3),)), (0, 2, (("x", 2, 3),)),
        ])

    def test_optional_children_as_the_last_way(self):
        self.assertEqual(found_texts("(stat test:_ @t other:block @b?)", TEXT), [["a < 2", "{ a; }"], ["a < 2"]])
        self.assertEqual(found_texts("(block stat @s?)", "if x { a; b; }"), [["a;"], ["b;"], []])

    def test_anchors(self):
        self.assertEqual(found_texts("(block . \"{\" . stat @s)", TEXT), [["b = f(a, b);"], ["a;"]])
        self.assertEqual(found_texts("(call word . \"(\" . expr @a . \",\" . expr @b . \")\" .)", TEXT), [["a", "b"]])
        self.assertEqual(answers("(doc .)", ""), [(0, 0, ())])
        self.assertEqual(answers("(doc .)", "a;"), [])

    def test_inside_and_absent(self):
        self.assertEqual(found_texts("(stat !other >> call @c)", TEXT), [["b"], ["1"], ["f(a, b)"], ["a"], ["b"], ["a"]])
        self.assertEqual(found_texts("(stat !name value:_ @v)", TEXT), [])
        self.assertEqual(found_texts("(stat !test value:_ @v)", TEXT), [["b + 1"], ["f(a, b)"]])

    def test_hidden_nodes_are_not_seen(self):
        # Lines are hidden: statements and notes are seen as children of the document.
        self.assertEqual(found_texts("(doc stat @s)", "a; # x\nb;"), [["a;"], ["b;"]])
        self.assertEqual(found_texts("(doc note @s)", "a; # x\nb;"), [["# x"]])

    def test_error_nodes_and_skipped_leaves(self):
        text = "a = ; ` ) b;"
        errors = [(place, node) for place, node in walk(read_text(CODE_TABLE, text)) if node.kind == "error"]
        self.assertEqual(found_texts("error @e", text), [[source(node, place, text)] for place, node in errors])
        self.assertEqual(found_texts("(error stray @s)", text), [["`"]])
        self.assertEqual(found_texts('(error >> ")" @s)', text), [[")"]])

    def test_each_test(self):
        text = "a = a; b = c; d = d(d);"
        form = "(stat name:word @n value:_ @v)"
        self.assertEqual(found_texts(form + ' #is @n "a"', text), [["a", "a"]])
        self.assertEqual(found_texts(form + ' #not @n "a"', text), [["b", "c"], ["d", "d(d)"]])
        self.assertEqual(found_texts(form + " #same @n @v", text), [["a", "a"]])
        self.assertEqual(found_texts(form + " #differ @n @v", text), [["b", "c"], ["d", "d(d)"]])
        self.assertEqual(found_texts(form + ' #not @n "a" #not @v "c"', text), [["d", "d(d)"]])
        self.assertEqual(found_texts(form + ' #is @n ""', text), [])

    def test_a_capture_that_is_not_bound(self):
        form = "(stat name:word @n? >> n @a)"
        for test, expected in (('#is @n "x"', 1), ('#not @n "y"', 1), ("#same @n @n", 1), ("#differ @n @a", 1), ("#same @n @a", 0), ("", 3)):
            self.assertEqual(len(answers(f"{form} {test}", "x = 1; 2;")), expected, test)
        self.assertEqual(found_texts(form + ' #not @n ""', "x = 1; 2;"), [["x", "1"]])

    def test_equal_bindings_are_kept(self):
        self.assertEqual(answers("(call expr)", "f(a, b);"), [(0, 0, ()), (0, 0, ())])
        self.assertEqual(len(answers("(call >> _)", "f(a);")), 9)

    def test_choices(self):
        self.assertEqual(answers("[[n @a _ @b] @c n]", "1", TABLE)[2:], [
            (0, 0, (("c", 0, 1), ("a", 0, 1))), (0, 0, (("c", 0, 1), ("b", 0, 1))), (0, 0, ()), (0, 1, (("c", 1, 1), ("b", 1, 1))),
        ])

    def test_an_empty_text(self):
        self.assertEqual(answers("_ @a", ""), [(0, 0, (("a", 0, 0),)), (0, 0, (("a", 0, 0),)), (0, 0, (("a", 0, 0),))])

    def test_kinds_of_values(self):
        found = answers("word @a", "a;")
        self.assertIsInstance(found, list)
        self.assertIsInstance(found[0], tuple)
        self.assertIsInstance(found[0][2], tuple)

    def test_as_the_document_says(self):
        chance = random.Random(31)
        total = 0
        for _ in range(500):
            text = random_text(chance, CODE_GRAMMAR, 9)
            tree = read_text(CODE_TABLE, text)
            query = RandomQuery(chance).query()
            expected = slow_answers(CODE_GRAMMAR, query, tree, text)
            self.assertEqual(ask(CODE_GRAMMAR, query, tree, text), expected)
            self.assertEqual(ask(CODE_GRAMMAR, query, shared(tree), text), expected)
            total += len(expected)
        self.assertGreater(total, 300)

    def test_deep_trees(self):
        for notation, last in ((ROWS, "(s . n @a .)"), (CHAINS, "(s . n @a .)")):
            table = build_table(read_grammar(notation))
            text = "1 " * 1000
            begin = time.process_time()
            self.assertEqual(len(answers(last, text, table)), 1)
            self.assertEqual(len(answers("(s n @a)", text, table)), 1000)
            self.assertEqual(len(answers(f"(root >> {last})", text, table)), 1)
            self.assertLess(time.process_time() - begin, 10)


class AskerTest(unittest.TestCase):
    """[8.10]."""

    def setUp(self):
        self.query = read_query(CODE_GRAMMAR, "(stat >> word @a) #not @a \"b\"\nn @b")
        self.tree = read_text(CODE_TABLE, TEXT)

    def test_asked(self):
        asker = Asker(CODE_GRAMMAR, self.query)
        self.assertEqual(asker.asked, 0)
        self.assertEqual(asker.search(self.tree, TEXT), ask(CODE_GRAMMAR, self.query, self.tree, TEXT))
        self.assertEqual(asker.asked, count_nodes(self.tree))

    def test_the_same_tree_again(self):
        asker = Asker(CODE_GRAMMAR, self.query)
        first = asker.search(self.tree, TEXT)
        self.assertEqual(asker.search(self.tree, TEXT), first)
        self.assertEqual(asker.asked, 0)

    def test_a_tree_that_is_the_same_but_another_one(self):
        asker = Asker(CODE_GRAMMAR, self.query)
        first = asker.search(self.tree, TEXT)
        other = read_tree(write_tree(self.tree))
        self.assertEqual(asker.search(other, TEXT), first)
        self.assertEqual(asker.asked, count_nodes(other))
        # Only the last tree counts.
        asker.search(self.tree, TEXT)
        self.assertEqual(asker.asked, count_nodes(self.tree))

    def test_a_tree_that_shares_nodes_with_the_one_before(self):
        asker = Asker(CODE_GRAMMAR, self.query)
        asker.search(self.tree, TEXT)
        found = reread(CODE_TABLE, TEXT, self.tree, [(4, 5, "c"), (0, 0, "\n")])
        self.assertEqual(asker.search(found.tree, found.text), ask(CODE_GRAMMAR, self.query, found.tree, found.text))
        self.assertEqual(asker.asked, len(found.rebuilt))
        asker.search(self.tree, TEXT)
        new = {id(node) for _, node in walk(found.tree)}
        self.assertEqual(asker.asked, len([node for _, node in walk(self.tree) if id(node) not in new]))

    def test_a_node_at_several_paths_counts_once(self):
        asker = Asker(CODE_GRAMMAR, self.query)
        text = "a; a; a; a;"
        tree = shared(read_text(CODE_TABLE, text))
        different = len({id(node) for _, node in walk(tree)})
        self.assertLess(different, count_nodes(tree))
        self.assertEqual(asker.search(tree, text), ask(CODE_GRAMMAR, self.query, tree, text))
        self.assertEqual(asker.asked, different)

    def test_answers_are_new(self):
        asker = Asker(CODE_GRAMMAR, self.query)
        first = asker.search(self.tree, TEXT)
        kept = list(first)
        first.clear()
        self.assertEqual(asker.search(self.tree, TEXT), kept)

    def test_over_many_edits(self):
        chance = random.Random(32)
        for _ in range(12):
            query = RandomQuery(chance).query()
            asker = Asker(CODE_GRAMMAR, query)
            text = random_text(chance, CODE_GRAMMAR, 12)
            tree = read_text(CODE_TABLE, text)
            last = {}
            trees = []
            for _ in range(8):
                self.assertEqual(asker.search(tree, text), ask(CODE_GRAMMAR, query, tree, text))
                nodes = {id(node): node for _, node in walk(tree)}
                self.assertEqual(asker.asked, len(set(nodes) - set(last)))
                last = nodes
                trees.append((text, tree))
                if chance.random() < 0.3:
                    text, tree = chance.choice(trees)
                else:
                    found = reread(CODE_TABLE, text, tree, random_edits_of(chance, CODE_GRAMMAR, text, 1))
                    text, tree = found.text, found.tree

    def test_deep_trees(self):
        table = build_table(read_grammar(ROWS))
        text = "1 " * 1000
        tree = read_text(table, text)
        asker = Asker(table.grammar, read_query(table.grammar, "(s . n @a)"))
        self.assertEqual(len(asker.search(tree, text)), 1)
        found = reread(table, text, tree, [(1998, 1999, "2")])
        self.assertEqual(len(asker.search(found.tree, found.text)), 1)
        self.assertEqual(asker.asked, len(found.rebuilt))

    def test_lists_in_lists(self):
        table = build_table(read_grammar(LISTS))
        self.assertEqual(answers("(list >> a @a) @l", "[a,[b]]", table), [
            (0, 0, (("l", 0, 7), ("a", 1, 2))), (0, 0, (("l", 0, 7), ("a", 4, 5))), (0, 3, (("l", 3, 6), ("a", 4, 5))),
        ])


if __name__ == "__main__":
    unittest.main()
