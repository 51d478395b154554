"""[2.11] and [2.12]: the written form of grammars."""

import unittest

from mendedtree.grammar.grammar import Grammar
from mendedtree.grammar.notation import read_grammar
from mendedtree.grammar.writing import write_grammar
from mendedtree.signs.pattern import read_pattern
from mendedtree.tables.building import build_table
from tests.grammars import SAMPLES, random_grammars

EVERYTHING = """# all statements
language host
rule stat = a:word "=" b:n @neg | block @"+" | none "=" @word
inner word tiny
skip [ \\n\\]^]
kind word = ([a-c]  "x")+ | "\\"q"
step left "+" neg
kind n = [0-9]{2} ("." | "," [^])?
recover stat
step none n
hidden block
recover block stat
inner "q\\"" end
rule block = "{" (x:stat)* "}" | end:"q\\""
step right word
rule none = n | |
"""
PLAIN_SET = read_pattern("[^]")[1].replace("\\", "\\\\").replace("]", "\\]").replace("-", "\\-").replace("^", "\\^")
WRITTEN = """language host
skip [\\n \\]\\^]
kind word = ([abc] "x")+ | "\\"q"
kind n = [0123456789]{2} ("." | "," [ALL])?
step left "+" neg
step none n
step right word
recover stat block
hidden block block~1
inner word tiny
inner "q\\"" end
rule stat = a:word "=" b:n @neg | block @"+" | none "=" @word
rule block = "{" block~1 "}" | end:"q\\""
rule block~1 = | block~1 x:stat
rule none = n | |
"""


def attributes(grammar):
    return {name: value for name, value in vars(grammar).items() if not name.startswith("_")}


class WriteTest(unittest.TestCase):
    def test_every_line(self):
        chars = PLAIN_SET.replace("\t", "\\t").replace("\n", "\\n")
        self.assertEqual(write_grammar(read_grammar(EVERYTHING)), WRITTEN.replace("ALL", chars))

    def test_only_what_there_is(self):
        self.assertEqual(write_grammar(read_grammar("language a\nrule s = \n")), "language a\nrule s =\n")
        self.assertEqual(write_grammar(read_grammar("language a\nrule s = | | \"x\"\n")), 'language a\nrule s = | | "x"\n')
        self.assertEqual(write_grammar(read_grammar('language a\nskip "\\t"\nrule s = "x" |')), 'language a\nskip [\\t]\nrule s = "x" |\n')

    def test_kinds_and_rules_in_any_order(self):
        kinds = [("b", ("set", "b")), ('"+"', ("set", "+")), ("a", ("set", "a"))]
        alternatives = [("t", ("b",), ("",), ""), ("s", ("t", "a"), ("l", ""), ""), ("t", (), (), "m"), ("s", ('"+"',), ("",), "b")]
        grammar = Grammar("g", kinds=kinds, rules=("s", "t"), alternatives=alternatives, steps=(("left", ("m", "b")),))
        lines = ["language g", 'kind b = "b"', 'kind a = "a"', "step left m b", 'rule s = l:t a | "+" @b', "rule t = b | @m"]
        self.assertEqual(write_grammar(grammar), "".join(line + "\n" for line in lines))

    def test_reading_what_was_written(self):
        for grammar in [read_grammar(notation) for notation in (EVERYTHING, *SAMPLES)] + random_grammars(1, 150):
            again = read_grammar(write_grammar(grammar))
            self.assertEqual(attributes(again), attributes(grammar))
            self.assertEqual(write_grammar(again), write_grammar(grammar))


class OrderTest(unittest.TestCase):
    def test_kinds_then_the_end_then_rules(self):
        table = build_table(read_grammar('language a\nkind a = "a"\nrule s = t "b" | \nrule t = t a | a\n'))
        self.assertEqual(list(table.offers(0)), ["a", "end"])
        # Of two states the first difference in the order of symbols is told: the kinds come before the end.
        after = table.goto(0, "t")
        self.assertEqual(list(table.offers(after)), ['"b"', "a"])
        self.assertEqual(table.parting(0, after), ((), '"b"'))
        self.assertEqual(table.parting(table.action(0, "a")[1], table.action(after, "a")[1]), ((), '"b"'))


if __name__ == "__main__":
    unittest.main()
