"""[5.12]: no footprint can be shorter."""

import random
import unittest

from mendedtree.grammar.notation import read_grammar
from mendedtree.reading.reader import read_text
from mendedtree.reading.witness import witness
from mendedtree.signs.alphabet import is_text
from mendedtree.tables.building import build_table
from mendedtree.trees.node import same, walk
from mendedtree.trees.paths import at_path
from mendedtree.trees.stored import write_tree
from tests.grammars import CODE, LISTS, SAMPLES, TINY, random_grammars
from tests.helpers import raised
from tests.slow_reading import random_text

TABLE = build_table(read_grammar(TINY))


def paths_of(node, path=()):
    found = [path]
    for index, child in enumerate(node.nodes):
        found += paths_of(child, path + (index,))
    return found


class WitnessTest(unittest.TestCase):
    def check(self, table, text, path, place):
        begin, node = at_path(read_text(table, text), path)
        other = witness(table, text, path, place)
        told = (text, other, path, place, write_tree(node))
        self.assertTrue(is_text(other), told)
        self.assertEqual(other[:place], text[:place], told)
        for at, built in walk(read_text(table, other)):
            self.assertFalse(at == begin and same(built, node), told)

    def check_all(self, table, text):
        for path in paths_of(read_text(table, text)):
            begin, node = at_path(read_text(table, text), path)
            self.assertGreater(node.look, 0)
            for place in range(begin, begin + node.look):
                self.check(table, text, path, place)
            for place in (begin - 1, begin + node.look, begin + node.look + 1, -1, len(text) + 1):
                self.assertEqual(raised(witness, table, text, path, place), ("NoWitness", place))

    def test_shifts_reductions_and_the_end(self):
        for text in ("1+22", "1", "12+3+4"):
            self.check_all(TABLE, text)

    def test_the_last_resort(self):
        for text in ("", "1+", "`", "1+`2", "+``", "1++1"):
            self.check_all(TABLE, text)
        table = build_table(read_grammar(TINY + "skip [ ]\n"))
        for text in ("  ", " + ` ", "1 2  "):
            self.check_all(table, text)

    def test_tries(self):
        code, lists = build_table(read_grammar(CODE)), build_table(read_grammar(LISTS))
        for text in ("if a < {}", "a=;", "if(1+){b;}", "a = 1 ` 2; b;", "f(,1", "{", "#x\na"):
            self.check_all(code, text)
        for text in ("[a,(]", "[a", "(`)", "]]", "[[,a ,] a"):
            self.check_all(lists, text)

    def test_tries_that_fail_at_once(self):
        blind = 'language a\nstep none n\nkind n = [0-9]\nrecover r t\nrule s = r n | q n | t "z"\nrule q = r @n\nrule r = "x" "y"\nrule t = "x" "w"\n'
        for text in ("x`zzzz", "x", "x`"):
            self.check_all(build_table(read_grammar(blind)), text)
            self.check_all(build_table(read_grammar(blind.replace("recover r t", "recover r"))), text)

    def test_a_question_examines_more_than_the_scans_behind_it(self):
        question = 'language q\nskip [ ]\nkind gap = " a"\nrecover e\nrule s = "(" e "abc" | "(" e "b" | gap\nrule e = "n" "m"\n'
        for text in ("(n ab", "(n abd", "(n abc", "(n  b"):
            self.check_all(build_table(read_grammar(question)), text)

    def test_a_try_that_fails_before_another_one(self):
        # The try with e examines all of the text; behind "ab" a letter instead of the space gives a text as long.
        notation = 'language q\nskip [ ]\nkind w = [a-z]+\nrecover e f\nrule s = "(" e "!" | "(" f ")" w*\nrule e = "1" "2"\nrule f = "1" "3"\n'
        for text in ("(1)ab ", "(1)", "(1)ab c", "(1) `"):
            self.check_all(build_table(read_grammar(notation)), text)

    def test_a_scan_that_looks_far(self):
        # The scan of "ab" ends at the last letter, where a stray character makes no difference to it.
        kinds = 'language q\nkind long = "ab" | "abzcd"\nkind w = [a-z]\n'
        table = build_table(read_grammar(kinds + 'rule s = t "z" w*\nrule t = "x" long\n'))
        self.check_all(table, "xabzce")
        blind = 'step none n\nkind n = [0-9]\nrecover r t\nrule s = r n | q n | t "z" | long w\nrule q = r @n\nrule r = "x" "y"\nrule t = "x" "w"\n'
        table = build_table(read_grammar(kinds + blind))
        self.check_all(table, "xabzce")
        # Behind the error node the letters are single leaves.
        table = build_table(read_grammar(kinds + 'recover e\nrule s = t | t "." | long\nrule t = "(" e ")" w w w w w\nrule e = "1"\n'))
        for text in ("(`)abzce.", "(`)abzce"):
            self.check_all(table, text)

    def test_questions_that_are_not_asked(self):
        statement = 'language a\nskip [ ]\nrecover e\nrule s = "a" e ";"\nrule e = "n"\n'
        for text in ("a;;", "a;", "a ` ;", "an;;"):
            self.check_all(build_table(read_grammar(statement)), text)
        less = 'language a\nkind n = [0-9]\nstep none "<"\nrecover a e\nrule e = e "<" e | a\nrule a = n\n'
        for text in ("1<`<2", "1<2<2", "1<`<`<3", "<<"):
            self.check_all(build_table(read_grammar(less)), text)
        empty = 'language a\nrecover e\nrule s = "a" o e ";"\nrule o = | "o"\nrule e = o "n" "m"\n'
        for text in ("a;;", "an;", "ao;;", "a`;"):
            self.check_all(build_table(read_grammar(empty)), text)

    def test_random_texts(self):
        chance = random.Random(51)
        for grammar in [read_grammar(notation) for notation in SAMPLES] * 5 + random_grammars(52, 150):
            self.check_all(build_table(grammar), random_text(chance, grammar, 6))

    def test_paths_and_places(self):
        for path in ((2,), (-1,), (0, 0, 0, 0), (1, 0)):
            # A wrong path comes before a wrong place.
            self.assertEqual(raised(witness, TABLE, "1+22", path, 0), ("NoNode", path))
            self.assertEqual(raised(witness, TABLE, "1+22", path, 99), ("NoNode", path))
        self.assertEqual(raised(witness, TABLE, "1+22", (0, 1), 0), ("NoWitness", 0))
        self.assertEqual(raised(witness, TABLE, "1+22", (0, 1), 2), ("NoWitness", 2))
        self.assertEqual(raised(witness, TABLE, "1+22", (0, 0, 0), 2), ("NoWitness", 2))
        self.assertEqual(raised(witness, TABLE, "1+22", (), 5), ("NoWitness", 5))
        self.assertEqual(raised(witness, TABLE, "1+22", (), -1), ("NoWitness", -1))

    def test_long_texts(self):
        lists = build_table(read_grammar(LISTS))
        text = "[" * 1000 + "]" * 1000
        for path, place in (((), 2000), ((0,), 1500), ((0, 1), 3), ((1,), 2000)):
            self.check(lists, text, path, place)
        self.check(lists, "[" * 2000, (0,), 1999)


if __name__ == "__main__":
    unittest.main()
