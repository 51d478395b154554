"""[2.1] to [2.10]: grammars and their notation."""

import unittest

from mendedtree.grammar.grammar import Grammar
from mendedtree.grammar.notation import read_grammar
from mendedtree.signs.pattern import read_pattern
from tests.helpers import raised

HOST = """# a comment
  language host
   # another one
skip [ \\n]

kind word = [a-z]+
kind n = [0-9]+
step left "+" neg
step none n
recover stat stat
hidden block
inner word tiny
step right word
recover block stat
inner "q\\"" end
rule stat = a:word "=" b:n @neg | block @"+"
rule block = "{" (x:stat)* "}" | end:"q\\""
"""
GOOD = 'language tiny\nkind n = [0-9]+\nstep left "+"\nrule sum = sum "+" sum | n\n'


def body(text, more=""):
    """The rules and the alternatives of a grammar whose start rule s has a body; x and y are kinds."""
    grammar = read_grammar('language a\nkind x = "x"\nkind y = "y"\n' + more + "rule s = " + text)
    return grammar.rules, [(rule, symbols, labels) for rule, symbols, labels, _ in grammar.alternatives]


class GrammarTest(unittest.TestCase):
    def test_attributes_in_any_order(self):
        kinds = [("b", ("set", "b")), ("a", ("set", "a"))]
        rules = ["t", "s"]
        alternatives = [("s", ("a",), ("",), ""), ("t", ("s", "b"), ("l", ""), "m")]
        grammar = Grammar("g", kinds=kinds, rules=rules, alternatives=alternatives, skip=" ", hidden=["s"],
                          recover=["t"], inner=[("a", "z")], steps=[("left", ("m",))])
        self.assertEqual((grammar.name, grammar.skip), ("g", " "))
        self.assertEqual((grammar.kinds, grammar.rules, grammar.alternatives), (tuple(kinds), ("t", "s"), tuple(alternatives)))
        self.assertEqual((grammar.hidden, grammar.recover), (("s",), ("t",)))
        self.assertEqual((grammar.inner, grammar.steps), ((("a", "z"),), (("left", ("m",)),)))
        kinds.clear()
        rules.clear()
        alternatives.clear()
        self.assertEqual((len(grammar.kinds), len(grammar.rules), len(grammar.alternatives)), (2, 2, 2))

    def test_defaults(self):
        grammar = Grammar("g", kinds=(), rules=("s",), alternatives=(("s", (), (), ""),))
        self.assertEqual((grammar.skip, grammar.hidden, grammar.recover, grammar.inner, grammar.steps), ("", (), (), (), ()))


class ReadTest(unittest.TestCase):
    def test_examples(self):
        grammar = read_grammar('language a\nrule s = "x"* ("y" | )\n')
        self.assertEqual(grammar.rules, ("s", "s~1", "s~2"))
        self.assertEqual(grammar.alternatives, (
            ("s", ("s~1", "s~2"), ("", ""), ""), ("s~1", (), (), ""), ("s~1", ("s~1", '"x"'), ("", ""), ""),
            ("s~2", ('"y"',), ("",), ""), ("s~2", (), (), ""),
        ))
        self.assertEqual(raised(read_grammar, 'language a\n\nrule s = s "x" | t\nrule t = s | "y"\n'), ("GrammarError", 3, "ring", ("s", "t", "s")))

    def test_all_attributes(self):
        grammar = read_grammar(HOST)
        self.assertEqual((grammar.name, grammar.skip), ("host", "\n "))
        names = ['"+"', '"="', '"q\\""', '"{"', '"}"', "word", "n"]
        self.assertEqual([name for name, _ in grammar.kinds], names)
        self.assertEqual(dict(grammar.kinds)['"q\\""'], ("row", (("set", "q"), ("set", '"'))))
        self.assertEqual(dict(grammar.kinds)['"+"'], ("set", "+"))
        self.assertEqual(dict(grammar.kinds)["word"], read_pattern("[a-z]+"))
        self.assertEqual(grammar.rules, ("stat", "block", "block~1"))
        self.assertEqual(grammar.hidden, ("block", "block~1"))
        self.assertEqual(grammar.recover, ("stat", "block"))
        self.assertEqual(grammar.inner, (("word", "tiny"), ('"q\\""', "end")))
        self.assertEqual(grammar.steps, (("left", ('"+"', "neg")), ("none", ("n",)), ("right", ("word",))))
        self.assertEqual(grammar.alternatives, (
            ("stat", ("word", '"="', "n"), ("a", "", "b"), "neg"), ("stat", ("block",), ("",), '"+"'),
            ("block", ('"{"', "block~1", '"}"'), ("", "", ""), ""), ("block", ('"q\\""',), ("end",), ""),
            ("block~1", (), (), ""), ("block~1", ("block~1", "stat"), ("", "x"), ""),
        ))
        for value in vars(grammar).values():
            self.assertIsInstance(value, (str, tuple))

    def test_spaces(self):
        spaced = "  language   a  \n   kind  k  =   [ab]  +   \n rule   s  =  ( x: k  |  t  )  *   k @m   |   \nrule t=k k\n step  left  m "
        close = "language a\nkind k=[ab]+\nrule s=(x:k|t)*k@m|\nrule t=k k\nstep left m"
        self.assertEqual(vars(read_grammar(spaced)), vars(read_grammar(close)))
        self.assertEqual(body("x:y x: y x")[1], [("s", ("y", "y", "x"), ("x", "x", ""))])

    def test_names(self):
        text = "language rule\nkind left = [a]\nrule language = kind:left a~_9\nrule a~_9 = left"
        grammar = read_grammar(text)
        self.assertEqual((grammar.name, grammar.rules), ("rule", ("language", "a~_9")))
        self.assertEqual(read_grammar("language end\nrule s = root:\"x\" error: \"y\"\ninner s stray").alternatives[0][2], ("root", "error"))

    def test_skip(self):
        for notation, skip in (('" "', " "), ("[ \\n\\t]", "\t\n "), ('("#")', "#"), ("[b-d]", "bcd"), (" . ", read_pattern(".")[1])):
            self.assertEqual(read_grammar(f"language a\nskip{notation}\nrule s = \"x\"").skip, skip)
        self.assertEqual(read_grammar('language a\nrule s = "x"').skip, "")

    def test_literals(self):
        grammar = read_grammar('language a\nkind k = "b"\nrule s = "b" "\\n" "ab" "\t" "\\t" "a" "\\\\" k')
        self.assertEqual([name for name, _ in grammar.kinds], ['"\\t"', '"\\n"', '"\\\\"', '"a"', '"ab"', '"b"', "k"])
        self.assertEqual(grammar.alternatives[0][1][3:5], ('"\\t"', '"\\t"'))

    def test_comments_and_empty_lines(self):
        grammar = read_grammar('\n\n# language b\nlanguage a\n   \n   #rule\nrule s = "#"\n')
        self.assertEqual(grammar.alternatives, (("s", ('"#"',), ("",), ""),))
        self.assertEqual(raised(read_grammar, 'language a\nrule s = "x" # no comment'), ("GrammarError", 2, "word", ()))
        self.assertEqual(raised(read_grammar, "language a\n\t\nrule s = s"), ("GrammarError", 2, "statement", ()))

    def test_empty_alternatives(self):
        self.assertEqual(body("")[1], [("s", (), ())])
        self.assertEqual(body("|x|")[1], [("s", (), ()), ("s", ("x",), ("",)), ("s", (), ())])
        self.assertEqual(body("()x")[1], [("s", ("s~1", "x"), ("", "")), ("s~1", (), ())])
        self.assertEqual(read_grammar("language a\nrule s = @m | \"x\" @m\nstep none m").alternatives,
                         (("s", (), (), "m"), ("s", ('"x"',), ("",), "m")))


class ExpansionTest(unittest.TestCase):
    def test_operators_of_symbols(self):
        for sign, rows in (
            ("?", [((), ()), (("x",), ("l",))]),
            ("*", [((), ()), (("s~1", "x"), ("", "l"))]),
            ("+", [(("x",), ("l",)), (("s~1", "x"), ("", "l"))]),
        ):
            rules, alternatives = body("l:x" + sign)
            self.assertEqual(rules, ("s", "s~1"))
            self.assertEqual(alternatives, [("s", ("s~1",), ("",))] + [("s~1",) + row for row in rows])

    def test_operators_of_groups(self):
        for sign, rows in (
            ("", [(("x",), ("l",)), (("y", "x"), ("", ""))]),
            ("?", [((), ()), (("x",), ("l",)), (("y", "x"), ("", ""))]),
            ("*", [((), ()), (("s~1", "x"), ("", "l")), (("s~1", "y", "x"), ("", "", ""))]),
            ("+", [(("x",), ("l",)), (("y", "x"), ("", "")), (("s~1", "x"), ("", "l")), (("s~1", "y", "x"), ("", "", ""))]),
        ):
            rules, alternatives = body("y (l:x | y x)" + sign)
            self.assertEqual(alternatives, [("s", ("y", "s~1"), ("", ""))] + [("s~1",) + row for row in rows])

    def test_numbers_in_the_order_of_the_ends(self):
        rules, alternatives = body("((x? y)* | y+) x*")
        self.assertEqual(rules, ("s", "s~1", "s~2", "s~3", "s~4", "s~5"))
        self.assertEqual([row[:2] for row in alternatives], [
            ("s", ("s~4", "s~5")), ("s~1", ()), ("s~1", ("x",)), ("s~2", ()), ("s~2", ("s~2", "s~1", "y")),
            ("s~3", ("y",)), ("s~3", ("s~3", "y")), ("s~4", ("s~2",)), ("s~4", ("s~3",)), ("s~5", ()), ("s~5", ("s~5", "x")),
        ])

    def test_each_rule_counts_its_own(self):
        rules, _ = body("x? y?", "rule t = x* s y*\n")
        self.assertEqual(rules, ("t", "t~1", "t~2", "s", "s~1", "s~2"))

    def test_new_rules_can_be_named(self):
        grammar = read_grammar('language a\nrule s = "x"? t\nrule t = "y" | s~1 "z"\nrecover s~1\nhidden t s~1\ninner s~1 b')
        self.assertEqual((grammar.recover, grammar.hidden, grammar.inner), (("s~1",), ("s~1", "t"), (("s~1", "b"),)))

    def test_twelve_groups(self):
        for sign in ("", "?", "*", "+"):
            rules, alternatives = body("(y " * 12 + "x" + ")" * 11 + ")" + sign)
            self.assertEqual(rules, ("s",) + tuple(f"s~{number}" for number in range(1, 13)))
            self.assertEqual(alternatives[1][0], "s~1")
            self.assertIn(("s~1", ("y", "x"), ("", "")), alternatives)
        rules, alternatives = body("(y " * 12 + "x" + ")+" * 12)
        self.assertEqual(len(alternatives), 25)


class LineFaultsTest(unittest.TestCase):
    def check(self, reason, lines, before="language a\nkind k = [a]\nkind l = [b]\n"):
        for line in lines:
            number = before.count("\n") + 1
            for rest in ("", "\nrule", '\nrule s = "x"\n'):
                self.assertEqual(raised(read_grammar, before + line + rest), ("GrammarError", number, reason, ()), line)
            self.assertEqual(read_grammar(GOOD).rules, ("sum",))

    def test_statement(self):
        self.check("statement", [
            "rules s = k", "Rule s = k", "= k", '"rule" s', '"', "kinds k = [a]", "\trule s = k", "language2 b", "end", "rule~ s", "|", "`",
            "skip_ [ ]", "9", "k", "step2 left k",
        ])
        self.check("statement", ["kinds k = [a]", '"', "languages", "`"], "")

    def test_language(self):
        self.check("language", ["rule s = k", "skip", "kind end = []", "step", 'recover "', "hidden `", "inner", "rule"], "")
        self.check("language", ["language b", "language", "language `", 'language "'])
        self.check("language", [" rule s"], "# comment\n\n")

    def test_words_of_language(self):
        self.check("word", ["language", "language A", 'language "x"', "language a b", 'language a "x"', "language a =", "language a:", "language a `"], "")
        self.check("pattern", ['language "', 'language a ""', 'language a "`"', 'language "\\q"'], "")

    def test_reserved(self):
        self.check("reserved", [f"{begin} {name}" for name in ("end", "error", "stray", "root") for begin in (
            "kind", "rule", "rule s =", "rule s = k", "rule s = (k |", "step left", "step none k", "recover", "recover k", "hidden", "inner",
            "rule s = k:",
        )] + [
            "rule s = k @end", "rule s = @root", "kind end: = x", "kind end = []", "inner end", "inner end `", "rule s = x:end?", "rule s = end =",
            "step left m end m",
        ])

    def test_pattern(self):
        self.check("pattern", [
            "skip", "skip  ", "skip a", "skip [", 'skip "ab"', 'skip ""', "skip [a]*", 'skip "a" | "b"', "skip [ ] x", "skip `",
            "kind m =", "kind m =  ", "kind m = a", 'kind m = "', "kind m = [b-a]", "kind m = [a] = [b]", 'kind m "', "kind m = `",
            'kind "', 'kind ""', 'rule s = "', 'rule s = ""', 'rule s = "`"', 'rule s = "\\q"', 'rule s = k "x', 'rule s = x:"',
            'rule s = k @"', 'rule s = k @""', 'rule "', 'rule s "', 'step "', 'step left ""', 'step left k "', 'recover "', 'recover k "',
            'hidden ""', 'inner "', 'inner k "', 'inner k a "', 'rule s = k @m "', 'rule s = k @ "', 'rule s = k? "',
        ])

    def test_double(self):
        self.check("double", ["kind k = [a]", "kind k", 'kind k "', "rule l = k", "rule k", "rule l `"])
        before = "language a\nskip [ ]\nkind k = [a]\nrule t = k\ninner k b\ninner \"x\" b\nstep left k \"+\" m\n"
        self.check("double", [
            "kind t = [a]", "rule t = k", "skip", "skip `", "skip [ ]", "inner k", "inner k `", 'inner "x" b', "step left k", "step right m", 'step none "+"',
            "step left n n", 'step left "\\t" k "', 'step left "\t" "\\t"',
        ], before)

    def test_deep(self):
        self.check("deep", ["rule s = " + "(" * 13, "rule s = " + "(k " * 13 + ")" * 13, "rule s = " + "(k)" * 3 + "(" * 13 + " `"])

    def test_words_of_kinds_steps_and_lists(self):
        self.check("word", [
            "kind", 'kind "x" = [a]', "kind m", "kind m [a]", "kind m: = [a]", "kind K = [a]", "kind m `", "kind = [a]",
            "step", "step left", "step both k", "step end k", "step left =", "step left k =", "step left (", "step left K", "step left k:", 'step "left" k',
            "recover", "recover =", 'recover "x"', "recover k |", "recover k:", 'recover k "x"', "hidden", 'hidden "x"', "hidden k *", "hidden `",
            "inner", "inner k", 'inner "x"', 'inner "x" "y"', "inner k b c", "inner = b", "inner k =", "inner k b =", "inner k: b", "inner k b `",
        ])

    def test_words_of_rules(self):
        self.check("word", [
            "rule", "rule =", 'rule "x" = k', "rule s", "rule s k", "rule s : k", "rule s: = k", "rule S = k", "rule s = K", "rule s = k = k",
            "rule s = k `", "rule s = \t", "rule s = k ~ k", "rule s = k . k", "rule s = 9", "rule s = (k", "rule s = k)", "rule s = (", "rule s = )",
            "rule s = *", "rule s = ?k", "rule s = k | +", "rule s = (*)", "rule s = k?*", "rule s = k? ?", "rule s = (k)*+", "rule s = x:", "rule s = x:(k)",
            "rule s = x :k", "rule s = x:y:k", "rule s = x:end:k", "rule s = :k", 'rule s = "x":k', "rule s = x:*", "rule s = x:|", "rule s = @", "rule s = k @ k",
            "rule s = k @", "rule s = k @|", "rule s = @k k", 'rule s = @k "x"', "rule s = @k @k", "rule s = @k?", "rule s = @k (k)", "rule s = @x:k", "rule s = @end:k",
            "rule s = (@k)", "rule s = (k @k | k)", "rule s = k @ end", "rule s = @(k)", "rule s = @k)", "rule s = k == k", "rule s = kK",
        ])

    def test_two_faults_in_one_line(self):
        self.check("word", ["rule s = = end", 'rule s = k ) "', "kind : end", "step both end", "inner k = end"])
        self.check("reserved", ['rule s = end "', "rule end `", "step left end end"])
        self.check("pattern", ['rule s = "" end', "kind m = [b-a", 'kind m "" = '])
        self.check("double", ["kind k `", 'rule k = "'])

    def test_two_faults_in_two_lines(self):
        self.assertEqual(raised(read_grammar, "language a\nrule s = (\nrules"), ("GrammarError", 2, "word", ()))
        self.assertEqual(raised(read_grammar, "language a\nrule s = t\nrule u = )"), ("GrammarError", 3, "word", ()))
        self.assertEqual(raised(read_grammar, "rules\nlanguage"), ("GrammarError", 1, "statement", ()))
        self.assertEqual(raised(read_grammar, "\n\nlanguage a\n\nrule s = end\nskip"), ("GrammarError", 5, "reserved", ()))


class WholeFaultsTest(unittest.TestCase):
    def check(self, line, reason, names, lines):
        notation = "language a\n" + "\n".join(lines)
        self.assertEqual(raised(read_grammar, notation), ("GrammarError", line, reason, names), notation)
        self.assertEqual(read_grammar(GOOD).rules, ("sum",))

    def test_no_statement_and_no_rule(self):
        for notation in ("", "\n", "  \n# language a\n"):
            self.assertEqual(raised(read_grammar, notation), ("GrammarError", 0, "language", ()))
        for lines in ([], ["kind k = [a]*"], ["recover s"], ["step left s"]):
            self.check(0, "rules", (), lines)

    def test_unknown(self):
        self.check(2, "unknown", ("t",), ["rule s = t"])
        self.check(2, "unknown", ("t",), ["rule s = x:s t u"])
        self.check(2, "unknown", ("m",), ['rule s = "x" @m | t'])
        self.check(3, "unknown", ("t",), ['rule s = "x" | s', "recover s t"])
        self.check(3, "unknown", ("k",), ['rule s = "x"', "recover k", "kind k = [a]"])
        self.check(3, "unknown", ("k",), ['rule s = "x"', "hidden s k", "kind k = [a]"])
        self.check(2, "unknown", ("t",), ["inner t b", 'rule s = "x"', "recover u"])
        self.check(3, "unknown", ("s",), ["kind k = [a]", "rule s = k @s"])
        self.check(3, "unknown", ("s~2",), ['rule s = "x"?', "recover s~2"])
        self.check(2, "unknown", ("m",), ["rule s = m", "step left m"])
        self.check(2, "unknown", ("u",), ["rule s = ((u)) t"])
        self.check(2, "unknown", ("m",), ["inner m b", 'rule s = "x"', "step left m"])

    def test_known_names(self):
        notation = "language a\nrule s = k @k | t @m | \"x\" @\"y\"\nkind k = [a]\nrule t = k k\nstep left m\ninner t b\nhidden t\nrecover t"
        self.assertEqual(read_grammar(notation).alternatives[0][3], "k")
        self.assertEqual([name for name, _ in read_grammar(notation).kinds], ['"x"', '"y"', "k"])

    def test_step(self):
        self.check(2, "step", ("s",), ["step left m s t", 'rule s = "x" | t', 'rule t = "y"'])
        self.check(3, "step", ("s~1",), ["step left m", "step right n s~1", 'rule s = "x"?'])
        self.check(3, "step", ("s",), ["rule s = \"x\" @s", "step left s"])

    def test_empty(self):
        self.check(3, "empty", ("k",), ["kind l = [a]", "kind k = [a]*", "kind m = [b]?", "rule s = t", "rule t = k t"])
        self.check(4, "empty", ("k",), ["rule s = k", "", 'kind k = "" | "a"'])

    def test_double(self):
        self.check(2, "double", ("s~1",), ['rule s = "x"?', "kind s~1 = [a]"])
        self.check(3, "double", ("s~2",), ['rule s~2 = "x"', 'rule s = "x"? "y"* "z"+ s~2', 'rule s~3 = "x"'])
        self.check(2, "double", ("t~1",), ['rule t = s~1 "x"?', 'rule s = "x"?', 'rule s~1 = "y"', 'rule t~1 = "y"'])

    def test_unproductive(self):
        self.check(2, "unproductive", ("s",), ['rule s = "x" s'])
        self.check(3, "unproductive", ("t",), ['rule s = "x" | t', 'rule t = "x" u', "rule u = t"])
        self.check(3, "unproductive", ("t~1",), ['rule s = "x" | t', 'rule t = "y" | ("x" t~1)'])

    def test_unreachable(self):
        self.check(3, "unreachable", ("t",), ['rule s = "x"', 'rule t = "x" s', "rule u = t"])
        self.check(4, "unreachable", ("u",), ["rule s = t", 'rule t = "x"', 'rule u = "y"? t'])

    def test_ring(self):
        self.check(2, "ring", ("s", "s"), ['rule s = s | "x"'])
        self.check(2, "ring", ("s", "s"), ["rule s = s s | "])
        self.check(2, "ring", ("s", "t", "s"), ['rule s = e t e | "x"', "rule t = s e", "rule e = "])
        self.check(3, "ring", ("t", "u", "t"), ['rule s = t "x" | t', 'rule t = u | "y"', 'rule u = t | "x" s'])
        self.check(3, "ring", ("s", "s~1", "s"), ["", 'rule s = (s | "y")'])
        self.check(2, "ring", ("s", "t", "s"), ["rule s = u | t", "rule u = v", "rule v = s", 'rule t = s | "x"'])
        self.check(2, "ring", ("s~2", "s~2"), ['rule s = ("x"?)*'])

    def test_hidden_left(self):
        self.check(2, "hidden left", ("s",), ['rule s = e s "x" | "y"', "rule e = "])
        self.check(2, "hidden left", ("s",), ['rule s = "z"? s "x" | "y"'])
        self.check(3, "hidden left", ("t",), ['rule s = "x" t', 'rule t = e u "y" | "x"', 'rule u = t "z"', "rule e = "])
        self.check(2, "hidden left", ("s",), ['rule s = t "y" | "x"', 'rule t = e s "z"', "rule e = "])
        self.check(2, "hidden left", ("s",), ['rule s = s s "x" | '])

    def test_no_fault(self):
        for lines in (
            ['rule s = "x" e s | "y"', "rule e = "], ['rule s = s "x" | '], ['rule s = e "x" s e | "y"', "rule e = "], ['rule s = t "x" | "y"', 'rule t = s "z" | '],
            ['rule s = s e "x" |', "rule e = "],
        ):
            self.assertEqual(read_grammar("language a\n" + "\n".join(lines)).rules[0], "s")

    def test_the_order_of_the_reasons(self):
        lines = ["rule s = t", "step left s", "kind k = [a]?", 'rule u = "x"? u', "rule u~1 = s"]
        self.check(2, "unknown", ("t",), lines)
        lines[0] = "rule s = s"
        self.check(3, "step", ("s",), lines)
        lines[1] = ""
        self.check(4, "empty", ("k",), lines)
        lines[2] = ""
        self.check(5, "double", ("u~1",), lines)
        lines[4] = ""
        self.check(2, "unproductive", ("s",), lines)
        lines[0] = 'rule s = s | "x"'
        self.check(5, "unproductive", ("u",), lines)
        lines[3] = 'rule u = "x"? u "y" | "x"'
        self.check(5, "unreachable", ("u",), lines)
        lines[0] = 'rule s = s | "x" u'
        self.check(2, "ring", ("s", "s"), lines)
        lines[0] = 'rule s = "x" u'
        self.check(5, "hidden left", ("u",), lines)


if __name__ == "__main__":
    unittest.main()
