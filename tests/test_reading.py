"""[5.1] to [5.7], [5.9] to [5.11], [5.14]: reading texts, recovery and footprints."""

import random
import time
import unittest

from mendedtree.grammar.deriving import derives
from mendedtree.grammar.notation import read_grammar
from mendedtree.reading.reader import read_from, read_text
from mendedtree.reading.tracing import error_nodes
from mendedtree.tables.building import build_table
from mendedtree.tables.stored import read_table, write_table
from mendedtree.trees.node import leaves, same, walk
from mendedtree.trees.paths import at_path, count_nodes, height, source
from mendedtree.trees.stored import write_tree
from tests.grammars import CODE, LISTS, SAMPLES, TINY, random_grammars
from tests.slow_reading import SlowReading, random_text

TABLE = build_table(read_grammar(TINY))
STATEMENT = 'language a\nskip [ ]\nrecover e\nrule s = "a" e ";"\nrule e = "n"\n'
# Behind r the kind n is an error, because of the side none, so that the state behind r offers nothing.
BLIND = 'language a\nstep none n\nkind n = [0-9]\nRECOVER\nrule s = r n | q n | t "z"\nrule q = r @n\nrule r = "x" "y"\nrule t = "x" "w"\n'
QUESTION = 'language q\nskip [ ]\nkind gap = " a"\nrecover e\nrule s = "(" e "abc" | "(" e "b" | gap\nrule e = "n" "m"\n'


def table_of(notation):
    return build_table(read_grammar(notation))


def written(notation, text):
    """The written tree of a text without its root and its end leaf."""
    tree = read_text(table_of(notation), text)
    return write_tree(tree.nodes[0])


def shape(node):
    if node.kind == "error":
        return f"!{node.symbol}({' '.join(map(shape, node.nodes))})"
    return f"{node.kind}({' '.join(map(shape, node.nodes))})" if node.nodes or node.alternative >= 0 else node.kind


class ExampleTest(unittest.TestCase):
    def test_two_summands(self):
        tree = read_text(TABLE, "1+22")
        self.assertEqual(shape(tree), 'root(sum(sum(n) "+" sum(n)) end)')
        first = at_path(tree, (0, 0, 0))[1]
        self.assertEqual((first.kind, first.width, first.look), ("n", 1, 2))
        self.assertEqual(at_path(tree, (0, 0))[1].look, 2)

    def test_an_error(self):
        self.assertEqual(write_tree(read_text(TABLE, "1+")), (
            '(root root 0 0 2 3 -1 0 (error sum 0 0 2 3 -1 2 (sum sum 0 0 1 2 1 0 (n n 0 0 1 2 -1 0)) ("+" "+" 2 0 1 1 -1 0)) '
            "(end end 2 0 0 1 -1 0))"
        ))


class ReadTest(unittest.TestCase):
    """[5.1] to [5.3]."""

    def test_leads_and_widths(self):
        tree = read_text(table_of(TINY + "skip [ ]\n"), " 1 +  22 ")
        self.assertEqual(write_tree(tree), (
            '(root root 0 1 9 10 -1 0 (sum sum 0 1 8 10 0 0 (sum sum 0 1 2 4 1 0 (n n 0 1 2 3 -1 0)) ("+" "+" 2 1 2 2 -1 0) '
            "(sum sum 3 2 4 6 1 0 (n n 3 2 4 5 -1 0))) (end end 2 1 1 2 -1 0))"
        ))

    def test_empty_alternatives(self):
        tree = read_text(table_of("language e\nskip [ ]\nrule s = t t\nrule t = \n"), "  ")
        self.assertEqual(write_tree(tree), (
            "(root root 0 2 2 3 -1 0 (s s 0 0 0 3 0 0 (t t 0 0 0 3 1 0) (t t 2 0 0 3 1 0)) (end end 1 2 2 3 -1 0))"
        ))

    def test_the_lead_of_the_first_leaf(self):
        tree = read_text(table_of('language e\nskip [ ]\nrule s = t t u\nrule t = \nrule u = t "x" t\n'), "  x")
        self.assertEqual([node.lead for _, node in walk(tree)], [2, 2, 0, 0, 2, 0, 2, 0, 0])

    def test_each_state_allows_its_own_kinds(self):
        table = table_of('language k\nskip [ ]\nkind word = [a-z]+\nkind line = [^\\n]+\nrule s = word "=" line\n')
        tree = read_text(table, "ab =  c d=")
        self.assertEqual([(place, node.kind, node.lead, node.width) for place, node in leaves(tree)], [
            (0, "word", 0, 2), (2, '"="', 1, 2), (4, "line", 0, 6), (10, "end", 0, 0),
        ])

    def test_precedence(self):
        table = table_of(CODE)
        tree = read_text(table, "a=-1-2^3^4-5<6;")
        value = at_path(tree, (0, 0, 1, 0, 2))[1]
        self.assertEqual([source(node, place, "a=-1-2^3^4-5<6;") for place, node in walk(value, 2) if len(node.nodes) > 1], [
            "-1-2^3^4-5<6", "-1-2^3^4-5", "-1-2^3^4", "-1", "2^3^4", "3^4",
        ])

    def test_a_kind_that_is_an_error_by_the_side_none(self):
        table = table_of('language n\nkind n = [0-9]\nstep none "<"\nrule e = e "<" e | n\n')
        self.assertEqual(shape(read_text(table, "1<2")), 'root(e(e(n) "<" e(n)) end)')
        self.assertEqual(shape(read_text(table, "1<2<3")), 'root(!e(e(n) "<" e(n) "<" n) end)')

    def test_the_leaves_are_the_text(self):
        chance = random.Random(2)
        for grammar in [read_grammar(notation) for notation in SAMPLES] * 5 + random_grammars(3, 50):
            table = build_table(grammar)
            text = random_text(chance, grammar, 12)
            tree = read_text(table, text)
            place = 0
            for begin, leaf in leaves(tree):
                self.assertEqual(begin, place)
                place += leaf.width
            self.assertEqual((place, tree.width), (len(text), len(text)))
            if not error_nodes(tree):
                self.assertTrue(derives(grammar, [leaf.kind for _, leaf in leaves(tree)][:-1]))

    def test_each_node_is_a_new_object(self):
        first, second = read_text(TABLE, "1+2+`"), read_text(TABLE, "1+2+`")
        self.assertTrue(same(first, second))
        self.assertEqual({id(node) for _, node in walk(first)} & {id(node) for _, node in walk(second)}, set())
        self.assertEqual(len({id(node) for _, node in walk(first)}), count_nodes(first))

    def test_a_table_that_was_written(self):
        for notation in SAMPLES:
            table = table_of(notation)
            again = read_table(table.grammar, write_table(table))
            for text in ("1+2", "a=1;", "[a,(]", "", "`"):
                self.assertTrue(same(read_text(table, text), read_text(again, text)))


class RecoveryTest(unittest.TestCase):
    """[5.4] to [5.6]."""

    def test_an_error_node_for_skipped_leaves(self):
        self.assertEqual(written(STATEMENT, "a `` n;"), (
            '(s s 0 0 7 8 0 0 ("a" "a" 0 0 1 1 -1 0) (error e 1 1 5 6 -1 0 (stray stray -1 1 2 2 -1 0) (stray stray -1 0 1 1 -1 0) '
            '("n" "n" -1 1 2 2 -1 0)) (";" ";" 4 0 1 1 -1 0))'
        ))

    def test_the_question_needs_a_leaf(self):
        # Nothing was popped and nothing skipped, so that the first ";" is skipped, although it would do.
        self.assertEqual(written(STATEMENT, "a;;"), (
            '(s s 0 0 3 4 0 0 ("a" "a" 0 0 1 1 -1 0) (error e 1 0 1 2 -1 0 (";" ";" -1 0 1 1 -1 0)) (";" ";" 4 0 1 1 -1 0))'
        ))
        self.assertEqual(shape(read_text(table_of(STATEMENT), "a;")), 'root(!s("a" ";") end)')

    def test_the_question_is_asked_for_a_popped_leaf(self):
        table = table_of('language a\nrecover e\nrule s = "a" e ";"\nrule e = "n" "m"\n')
        self.assertEqual(shape(read_text(table, "an;")), 'root(s("a" !e("n") ";") end)')

    def test_leaves_inside_error_nodes_do_not_count(self):
        # The second "<" is an error, because of the side none. Behind what is popped then, which is an error node within
        # an inner node, the state would have an answer for it, but it is not asked before a leaf has been skipped.
        notation = 'language a\nkind n = [0-9]\nstep none "<"\nrecover a e\nrule e = e "<" e | a\nrule a = n\n'
        tree = read_text(table_of(notation), "1<`<2")
        self.assertEqual(shape(tree), 'root(e(e(a(n)) "<" e(!a(e(!a(stray)) "<" n))) end)')
        tree = read_text(table_of(notation), "1<2<2")
        self.assertEqual(shape(tree), 'root(e(e(a(n)) "<" e(!a(e(!a(e(a(n)))) "<" n))) end)')

    def test_an_error_node_and_a_leaf(self):
        notation = 'language a\nrecover f e\nrule s = "a" e ";"\nrule e = f "m"\nrule f = "n"\n'
        self.assertEqual(shape(read_text(table_of(notation), "am;;")), 'root(s("a" !e(!e("m") ";") ";") end)')
        self.assertEqual(shape(read_text(table_of(notation), "axm;")), 'root(s("a" e(!f(stray) "m") ";") end)')

    def test_a_try_that_fails_at_once(self):
        # The try with r would examine all of the text, if it did not fail at once.
        tree = read_text(table_of(BLIND.replace("RECOVER", "recover r t")), "x`zw")
        lost = at_path(tree, (0, 0))[1]
        self.assertEqual(shape(read_text(table_of(BLIND.replace("RECOVER", "recover r")), "x`1")), 'root(!s("x" stray n) end)')
        inner = [(place, node) for place, node in walk(tree) if node.kind == "error"][-1]
        self.assertEqual((shape(inner[1]), inner[1].look), ('!t("x" stray)', 3))
        self.assertEqual(lost.kind, "error")

    def test_the_states_are_examined_from_the_top_down(self):
        notation = 'language a\nrecover s e\nrule s = "(" s ")" | e ";"\nrule e = "n" "m"\n'
        self.assertEqual(shape(read_text(table_of(notation), "((n;))")), 'root(s("(" s("(" !s("n" ";") ")") ")") end)')
        self.assertEqual(shape(read_text(table_of(notation.replace("s e", "e s")), "((n;))")), 'root(s("(" s("(" s(!e("n") ";") ")") ")") end)')
        self.assertEqual(shape(read_text(table_of(notation), "((nm))")), 'root(s("(" s("(" !s("n" "m") ")") ")") end)')
        self.assertEqual(shape(read_text(table_of(notation), "((`")), 'root(!s("(" "(" stray) end)')

    def test_the_order_of_the_recovery_rules(self):
        notation = 'language a\nRECOVER\nrule s = "(" e ")" | "(" f ")"\nrule e = "n" "m"\nrule f = "n" "k"\n'
        for line, symbol in (("recover e f", "e"), ("recover f e", "f"), ("recover f\nrecover e", "f")):
            self.assertEqual(shape(read_text(table_of(notation.replace("RECOVER", line)), "(n)")), f'root(s("(" !{symbol}("n") ")") end)')

    def test_the_last_resort(self):
        table = table_of(STATEMENT.replace("recover e\n", ""))
        self.assertEqual(write_tree(read_text(table, " a  ` ; ")), (
            '(root root 0 1 8 9 -1 0 (error s 0 1 7 9 -1 1 ("a" "a" 0 1 2 2 -1 0) (stray stray -1 2 3 3 -1 0) (";" ";" -1 1 2 2 -1 0)) '
            "(end end 2 1 1 2 -1 0))"
        ))
        # The place of the error node's end is where the last scan was asked.
        self.assertEqual(write_tree(read_text(table, "  ")), "(root root 0 2 2 3 -1 0 (error s 0 0 0 3 -1 0) (end end 2 2 2 3 -1 0))")
        self.assertEqual(write_tree(read_text(table, "")), "(root root 0 0 0 1 -1 0 (error s 0 0 0 1 -1 0) (end end 2 0 0 1 -1 0))")

    def test_the_last_resort_skips_less_than_the_end(self):
        # The kind gap is allowed where leaves are skipped, so that only the end leaf takes the dots.
        table = table_of('language g\nskip [ .]\nkind gap = "." "x"\nrule s = "a" gap\n')
        self.assertEqual(write_tree(read_text(table, "b..")), (
            "(root root 0 0 3 4 -1 0 (error s 0 0 3 4 -1 0 (stray stray -1 0 1 1 -1 0) (stray stray -1 0 1 2 -1 0) "
            "(stray stray -1 0 1 2 -1 0)) (end end 4 0 0 1 -1 0))".replace("(end end 4", f"(end end {table.goto(0, 's')}")
        ))

    def test_error_nodes_within_popped_nodes(self):
        text = "[a,(]"
        table = table_of(LISTS)
        self.assertEqual(shape(read_text(table, text)), shape(SlowReading(table, text).read()))
        notation = 'language a\nrecover e s\nrule s = "(" e ";" e ")"\nrule e = "n"\n'
        tree = read_text(table_of(notation), "(m;m;")
        self.assertEqual(shape(tree), 'root(!s("(" !e(!e(stray) ";" stray) ";") end)')
        lost = tree.nodes[0].nodes[1]
        self.assertEqual((tree.nodes[0].popped, lost.popped, lost.nodes[0].popped), (3, 2, 0))

    def test_leads_of_error_nodes(self):
        tree = read_text(table_of(STATEMENT), "  `a n;")
        self.assertEqual((tree.lead, tree.nodes[0].lead, tree.nodes[0].kind), (2, 2, "error"))
        table = table_of('language a\nskip [ ]\nrecover e\nrule s = o e ";"\nrule o = | "o"\nrule e = "n" "m"\n')
        tree = read_text(table, "  n;")
        self.assertEqual(shape(tree), 'root(s(o() !e("n") ";") end)')
        self.assertEqual([node.lead for _, node in walk(tree)], [2, 2, 0, 2, 2, 0, 0])

    def test_without_recovery_rules(self):
        for text in ("+", "1+", "1`", "`", "1++2", ""):
            tree = read_text(TABLE, text)
            self.assertEqual((tree.nodes[0].kind, tree.nodes[0].symbol, len(tree.nodes)), ("error", "sum", 2))


class LookTest(unittest.TestCase):
    """[5.9]."""

    def looks(self, table, text):
        return [(place, node.kind, node.look) for place, node in walk(read_text(table, text))]

    def test_leaves_and_inner_nodes(self):
        table = table_of('language a\nkind if = "if"\nkind word = [a-z]+\nrule s = t word | "if" o "("\nrule t = word ":"\nrule o = \n')
        self.assertEqual(self.looks(table, "ab:c"), [
            (0, "root", 5), (0, "s", 5), (0, "t", 4), (0, "word", 3), (2, '":"', 1), (3, "word", 2), (4, "end", 1),
        ])

    def test_a_decision_examines_less_than_a_scan(self):
        table = table_of('language a\nkind word = [a-z]+\nrule s = o word\nrule o = | "1"\n')
        self.assertEqual(self.looks(table, "abc"), [(0, "root", 4), (0, "s", 4), (0, "o", 1), (0, "word", 4), (3, "end", 1)])

    def test_skipped_leaves_and_error_nodes(self):
        table = table_of('language a\nkind n = [0-9]+\nrecover e\nrule s = "a" e ";"\nrule e = "b" "c"\n')
        self.assertEqual(self.looks(table, "ab12;"), [
            (0, "root", 6), (0, "s", 6), (0, '"a"', 1), (1, "error", 4), (1, '"b"', 1), (2, "n", 3), (4, '";"', 1), (5, "end", 1),
        ])

    def test_tries_that_failed_count(self):
        table = table_of('language a\nrecover e f\nrule s = "(" e "!" | "(" f ")"\nrule e = "n" "m"\nrule f = "n" "k"\n')
        self.assertEqual(self.looks(table, "(n)"), [
            (0, "root", 4), (0, "s", 4), (0, '"("', 1), (1, "error", 3), (1, '"n"', 1), (2, '")"', 1), (3, "end", 1),
        ])

    def test_a_question_examines_more_than_the_scans_behind_it(self):
        # Behind "(n" the question skips the space and examines "abd", but the skipped leaf is " a", and then "b" will do.
        table = table_of(QUESTION)
        self.assertEqual(self.looks(table, "(n ab")[3:7], [(1, "error", 5), (1, '"n"', 1), (2, "gap", 2), (4, '"b"', 1)])
        tree = read_text(table, "(n ab")
        self.assertTrue(same(tree, SlowReading(table, "(n ab").read()))

    def test_inner_nodes_without_children(self):
        table = table_of('language a\nskip [ ]\nkind a = "ab"\nrule s = t a | t "ac"\nrule t = \n')
        self.assertEqual(self.looks(table, " ac")[2], (0, "t", 3))
        table = table_of('language a\nskip [ ]\nkind a = [a]+\nrule s = t a | t "c"\nrule t = \n')
        self.assertEqual(self.looks(table, " aa")[2], (0, "t", 2))

    def test_the_end_leaf_and_the_root(self):
        table = table_of(TINY + "skip [ ]\n")
        self.assertEqual(self.looks(table, "1  ")[-1], (1, "end", 3))
        self.assertEqual(self.looks(table, "1  ")[0], (0, "root", 4))

    def test_a_footprint_decides_a_node(self):
        """[5.10]: a node is built again where its state and the characters of its footprint are found."""
        chance = random.Random(12)
        for grammar in [read_grammar(notation) for notation in SAMPLES] * 8 + random_grammars(77, 60):
            table = build_table(grammar)
            text = random_text(chance, grammar, 8)
            for place, node in walk(read_text(table, text)):
                if node.state < 0 or node.kind in ("end", "root"):
                    continue
                other = text[place:place + node.look]
                if place + node.look <= len(text):
                    other += random_text(chance, grammar, 3)
                # Only a whole text has a last resort.
                read = [(0, read_text(table, other))] if node.state == 0 else read_from(table, other, 0, node.state)
                built = [below for _, child in read for _, below in walk(child)]
                self.assertTrue(any(same(node, below) for below in built), (text, other, write_tree(node)))


class SlowTest(unittest.TestCase):
    def test_whole_texts(self):
        chance = random.Random(21)
        for grammar in [read_grammar(notation) for notation in SAMPLES] * 30 + random_grammars(22, 250):
            table = build_table(grammar)
            for _ in range(3):
                text = random_text(chance, grammar, 10)
                self.assertTrue(same(read_text(table, text), SlowReading(table, text).read()), text)

    def test_parts_of_texts(self):
        chance = random.Random(23)
        for grammar in [read_grammar(notation) for notation in SAMPLES] * 20 + random_grammars(24, 100):
            table = build_table(grammar)
            text = random_text(chance, grammar, 8)
            for _ in range(5):
                place, state = chance.randint(0, len(text)), chance.randrange(table.count)
                found, slow = read_from(table, text, place, state), SlowReading(table, text, place, state).read_part()
                self.assertEqual([begin for begin, _ in found], [begin for begin, _ in slow])
                self.assertTrue(all(same(first, second) for (_, first), (_, second) in zip(found, slow)))


class ReadFromTest(unittest.TestCase):
    """[5.11]."""

    def shapes(self, table, text, place, state):
        return [(begin, shape(node)) for begin, node in read_from(table, text, place, state)]

    def test_each_state(self):
        found = [self.shapes(TABLE, "1+22", 2, state) for state in range(5)]
        self.assertEqual(found, [[(2, "sum(n)")], [], [], [(2, "sum(n)")], []])
        found = [self.shapes(TABLE, "1+22+3", 1, state) for state in range(5)]
        self.assertEqual(found, [[], [], [(1, '"+"'), (2, "sum(n)")], [], []])

    def test_it_stops_before_an_accepting_step(self):
        self.assertEqual(self.shapes(TABLE, "1+22", 0, 0), [(0, 'sum(sum(n) "+" sum(n))')])
        self.assertEqual(self.shapes(TABLE, "1", 1, 2), [])

    def test_it_stops_before_a_reduction_of_too_many_nodes(self):
        self.assertEqual(self.shapes(TABLE, "1+22", 3, 1), [])
        self.assertEqual(self.shapes(TABLE, "+2", 0, 2), [(0, '"+"'), (1, "sum(n)")])

    def test_it_stops_at_an_error(self):
        self.assertEqual(self.shapes(TABLE, "1+", 0, 0), [(0, "sum(n)"), (1, '"+"')])
        self.assertEqual(self.shapes(TABLE, "1`2", 1, 2), [])
        self.assertEqual(self.shapes(TABLE, "", 0, 0), [])

    def test_tries_on_this_stack(self):
        table = table_of(STATEMENT)
        first = table.action(0, '"a"')[1]
        self.assertEqual(self.shapes(table, "a`;", 1, first), [(1, "!e(stray)"), (2, '";"')])
        self.assertEqual(self.shapes(table, "a`", 1, first), [])
        self.assertEqual(self.shapes(table, "a`;", 0, 0), [(0, 's("a" !e(stray) ";")')])

    def test_the_end_of_a_text(self):
        self.assertEqual(self.shapes(TABLE, "12", 2, 0), [])
        self.assertEqual(self.shapes(table_of("language e\nrule s = t\nrule t = \n"), "", 0, 0), [(0, "s(t())")])


class DepthTest(unittest.TestCase):
    """[4.12] and [0.6]."""

    def test_trees_as_deep_as_a_text(self):
        table = table_of(LISTS)
        text = "[" * 1000 + "]" * 1000
        tree = read_text(table, text)
        self.assertEqual((height(tree), tree.width, error_nodes(tree)), (3001, 2000, []))
        sums = read_text(TABLE, "1+" * 999 + "1")
        self.assertEqual((height(sums), error_nodes(sums)), (1002, []))
        right = table_of('language r\nrule s = "x" s | \n')
        self.assertEqual(height(read_text(right, "x" * 2000)), 2002)

    def test_many_errors(self):
        begin = time.process_time()
        for notation, text in ((LISTS, "[" * 2000), (LISTS, "[a,]]" * 400), (CODE, "a = ( " * 333), (CODE, "`" * 2000), (CODE, "if a { " * 285)):
            tree = read_text(table_of(notation), text)
            self.assertEqual(tree.width, len(text))
            self.assertTrue(error_nodes(tree))
        self.assertLess(time.process_time() - begin, 20)


if __name__ == "__main__":
    unittest.main()
