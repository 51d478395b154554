"""[2.13] and [2.12]: what can be derived."""

import itertools
import random
import unittest

from mendedtree.grammar.deriving import derives, empty_rules, first_kinds
from mendedtree.grammar.grammar import Grammar
from mendedtree.grammar.notation import read_grammar


def grammar_of(*lines):
    return read_grammar("language g\nkind x = [x]\nkind y = [y]\nkind z = [z]\n" + "\n".join(lines))


def rows_of(grammar, longest):
    """For each symbol the rows of kinds up to a length that can be derived from it."""
    found = {name: {(name,)} for name, _ in grammar.kinds}
    found.update({rule: set() for rule in grammar.rules})
    growing = True
    while growing:
        growing = False
        for rule, symbols, _, _ in grammar.alternatives:
            more = joined(found, symbols, longest)
            if not more <= found[rule]:
                found[rule] |= more
                growing = True
    return found


def joined(found, symbols, longest):
    rows = {()}
    for symbol in symbols:
        rows = {row + more for row in rows for more in found[symbol] if len(row) + len(more) <= longest}
    return rows


class ExamplesTest(unittest.TestCase):
    def test_empty_rules(self):
        grammar = grammar_of("rule s = t u v | w", "rule t = x*", "rule u = t t~1", "rule v = x? y?", "rule w = t x")
        self.assertEqual(empty_rules(grammar), ["s", "t", "t~1", "u", "v", "v~1", "v~2"])
        self.assertEqual(empty_rules(grammar_of("rule s = x")), [])
        self.assertEqual(empty_rules(grammar_of("rule s = x | ")), ["s"])

    def test_first_kinds(self):
        grammar = grammar_of("rule s = t u | z", "rule t = y?", "rule u = u x | x")
        self.assertEqual(first_kinds(grammar, []), [])
        self.assertEqual(first_kinds(grammar, ["s"]), ["x", "y", "z"])
        self.assertEqual(first_kinds(grammar, ["t"]), ["y"])
        self.assertEqual(first_kinds(grammar, ["t", "t"]), ["y"])
        self.assertEqual(first_kinds(grammar, ["t", "z", "x"]), ["y", "z"])
        self.assertEqual(first_kinds(grammar, ["z", "y"]), ["z"])
        self.assertEqual(first_kinds(grammar, ["u", "s"]), ["x"])

    def test_the_order_of_the_kinds(self):
        grammar = Grammar("g", kinds=[("b", ("set", "b")), ("a", ("set", "a"))], rules=["s"],
                          alternatives=[("s", ("a",), ("",), ""), ("s", ("b",), ("",), "")])
        self.assertEqual(first_kinds(grammar, ["s"]), ["b", "a"])

    def test_rules_in_any_order(self):
        grammar = Grammar("g", kinds=[("a", ("set", "a"))], rules=["s", "t"],
                          alternatives=[("t", (), (), ""), ("s", ("t", "a"), ("", ""), ""), ("t", ("a",), ("",), "")])
        self.assertEqual(empty_rules(grammar), ["t"])
        self.assertEqual([derives(grammar, ["a"] * count) for count in range(4)], [False, True, True, False])

    def test_derives(self):
        grammar = grammar_of("step left y", "rule sum = sum y sum | x")
        self.assertIs(derives(grammar, ["x"]), True)
        self.assertIs(derives(grammar, ["x", "y", "x", "y", "x"]), True)
        for kinds in ([], ["y"], ["x", "y"], ["x", "x"], ["x", "y", "y", "x"], ["z"]):
            self.assertIs(derives(grammar, kinds), False)

    def test_names_that_are_no_kinds(self):
        grammar = grammar_of("rule s = x | t", "rule t = y | ")
        for kinds in (["s"], ["t"], ["end"], ["x", "nothing"], [""], ["error"], ['"x"']):
            self.assertIs(derives(grammar, kinds), False)

    def test_empty_rows(self):
        self.assertIs(derives(grammar_of("rule s = t t", "rule t = x | "), []), True)
        self.assertIs(derives(grammar_of("rule s = t t x", "rule t = x | "), []), False)

    def test_a_grammar_without_kinds(self):
        grammar = read_grammar("language g\nrule s = t t\nrule t = ")
        self.assertEqual((empty_rules(grammar), first_kinds(grammar, ["s", "t"])), (["s", "t"], []))
        self.assertIs(derives(grammar, []), True)
        self.assertIs(derives(grammar, ["x"]), False)

    def test_changed_answers_change_nothing(self):
        grammar = grammar_of("rule s = x | ")
        empty_rules(grammar).clear()
        first_kinds(grammar, ["s"]).clear()
        self.assertEqual((empty_rules(grammar), first_kinds(grammar, ["s"])), (["s"], ["x"]))

    def test_long_rows(self):
        left = grammar_of("rule s = s x | x y")
        self.assertIs(derives(left, ["x", "y"] + ["x"] * 1998), True)
        self.assertIs(derives(left, ["x", "y"] + ["x"] * 1997 + ["y"]), False)
        right = grammar_of("rule s = x s | y")
        self.assertIs(derives(right, ["x"] * 600 + ["y"]), True)
        ambiguous = grammar_of("rule s = s s s | x")
        self.assertIs(derives(ambiguous, ["x"] * 101), True)
        self.assertIs(derives(ambiguous, ["x"] * 100), False)


class AgainstSlowSearchTest(unittest.TestCase):
    def test_random_grammars(self):
        chance = random.Random(10)
        kinds = ["x", "y"]
        for _ in range(150):
            rules = ["s", "t", "u"][:chance.randint(1, 3)]
            alternatives = []
            for rule in rules:
                # Each rule has an alternative of kinds, so that all rules are productive.
                alternatives.append((rule, tuple(chance.choices(kinds, k=chance.randint(0, 2)))))
                for _ in range(chance.randint(0, 3)):
                    alternatives.append((rule, tuple(chance.choices(kinds + rules, k=chance.randint(0, 4)))))
            self.check(Grammar("g", kinds=[(name, ("set", name)) for name in kinds], rules=rules, alternatives=[
                (rule, symbols, ("",) * len(symbols), "") for rule, symbols in alternatives
            ]), chance)

    def check(self, grammar, chance):
        found = rows_of(grammar, 5)
        self.assertEqual(empty_rules(grammar), [rule for rule in grammar.rules if () in found[rule]])
        symbols = chance.choices(["x", "y"] + list(grammar.rules), k=chance.randint(0, 3))
        first = {row[0] for row in joined(found, symbols, 5) if row}
        self.assertTrue(first <= set(first_kinds(grammar, symbols)))
        if all(len(min(found[rule], key=len, default=(1,) * 9)) <= 1 for rule in grammar.rules) and len(symbols) <= 3:
            wide = rows_of(grammar, 7)
            first = {row[0] for row in joined(wide, symbols, 7) if row}
            self.assertEqual(set(first_kinds(grammar, symbols)), first)
        for length in range(6):
            for kinds in itertools.product(["x", "y"], repeat=length):
                self.assertIs(derives(grammar, list(kinds)), kinds in found["s"], (grammar.alternatives, kinds))


if __name__ == "__main__":
    unittest.main()
