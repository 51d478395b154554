"""[8.1], [8.2], [8.6] and [8.7]: queries and their notation."""

import unittest

from mendedtree.asking.queries import read_query
from mendedtree.grammar.notation import read_grammar
from tests.grammars import CODE, TINY
from tests.helpers import raised

TINY_GRAMMAR = read_grammar(TINY)
CODE_GRAMMAR = read_grammar(CODE)
# The kind and the label x have the same name, and the rule h is hidden.
MIXED = read_grammar('language m\nkind x = "x" | "y"\nkind end1 = "e"\nhidden h\nrule s = x:x y:s? h "a\\"\\\\\\n" | "x"\nrule h = deep:x\n')


def node(kind, *items, capture=""):
    return ("node", kind, tuple(items), capture)


def child(form, label="", optional=False):
    return ("child", label, form, optional)


def choice(*forms, capture=""):
    return ("choice", tuple(forms), capture)


ANCHOR = ("anchor",)


def only(notation, grammar=CODE_GRAMMAR):
    """The form of a notation that is one form without tests."""
    ((form, tests),) = read_query(grammar, notation)
    assert tests == ()
    return form


class FormTest(unittest.TestCase):
    def test_example(self):
        self.assertEqual(read_query(TINY_GRAMMAR, "(sum . n @a)"), (
            (("node", "sum", (("anchor",), ("child", "", ("node", "n", (), "a"), False)), ""), ()),
        ))
        self.assertEqual(raised(read_query, TINY_GRAMMAR, "(sum nn)"), ("QueryError", 5, "kind"))

    def test_kinds(self):
        for name in ("word", "n", "doc", "stat", "block", "error", "stray", "end", "root", "_"):
            self.assertEqual(only(name), node(name))
            self.assertEqual(only(f"({name})"), node(name))
        self.assertEqual(only('"if"'), node('"if"'))
        self.assertEqual(only('("=")'), node('"="'))

    def test_literals_as_kinds(self):
        self.assertEqual(only('"a\\"\\\\\\n"', MIXED), node('"a\\"\\\\\\n"'))
        self.assertEqual(only('"a\\"\\\\\n"', MIXED), node('"a\\"\\\\\\n"'))
        self.assertEqual(only('"x"', MIXED), node('"x"'))
        self.assertEqual(only("x", MIXED), node("x"))

    def test_captures(self):
        self.assertEqual(only("n@a"), node("n", capture="a"))
        self.assertEqual(only("(n) @end~1_"), node("n", capture="end~1_"))
        self.assertEqual(only("[n word] @root"), choice(node("n"), node("word"), capture="root"))
        self.assertEqual(only("[n @a (word) @b]@c"), choice(node("n", capture="a"), node("word", capture="b"), capture="c"))
        self.assertEqual(only("_ @a"), node("_", capture="a"))

    def test_choices(self):
        self.assertEqual(only("[n word _]"), choice(node("n"), node("word"), node("_")))
        self.assertEqual(only("[[n word] [n word]]"), choice(choice(node("n"), node("word")), choice(node("n"), node("word"))))
        self.assertEqual(only("[(stat n) n]"), choice(node("stat", child(node("n"))), node("n")))

    def test_items(self):
        self.assertEqual(only("(stat .)"), node("stat", ANCHOR))
        self.assertEqual(only("(stat . n .)"), node("stat", ANCHOR, child(node("n")), ANCHOR))
        self.assertEqual(only("(stat !name ! value)"), node("stat", ("absent", "name"), ("absent", "value")))
        self.assertEqual(only("(stat >> n @a >>(n) >>[n word])"), node(
            "stat", ("inside", node("n", capture="a")), ("inside", node("n")), ("inside", choice(node("n"), node("word"))),
        ))
        self.assertEqual(only("(stat . !name .)"), node("stat", ANCHOR, ("absent", "name"), ANCHOR))
        self.assertEqual(only("(stat n? (n)? [n word] ? n@a?)"), node(
            "stat", child(node("n"), optional=True), child(node("n"), optional=True), child(choice(node("n"), node("word")), optional=True),
            child(node("n", capture="a"), optional=True),
        ))
        self.assertEqual(only("(_ _ _?)"), node("_", child(node("_")), child(node("_"), optional=True)))

    def test_labels(self):
        self.assertEqual(only("(stat name:word value: expr? then:\n(block) other:[n word] test:_)"), node(
            "stat", child(node("word"), "name"), child(node("expr"), "value", True), child(node("block"), "then"),
            child(choice(node("n"), node("word")), "other"), child(node("_"), "test"),
        ))
        self.assertEqual(only('(expr left:"if")'), node("expr", child(node('"if"'), "left")))

    def test_labels_and_kinds_with_the_same_name(self):
        self.assertEqual(only("(s x)", MIXED), node("s", child(node("x"))))
        self.assertEqual(only("(s x:x)", MIXED), node("s", child(node("x"), "x")))
        self.assertEqual(only("(s x:x x x: x !x)", MIXED), node(
            "s", child(node("x"), "x"), child(node("x")), child(node("x"), "x"), ("absent", "x"),
        ))
        self.assertEqual(only("(s deep:x)", MIXED), node("s", child(node("x"), "deep")))

    def test_spaces_and_newlines(self):
        same = only("(stat name:word>>n@a.)")
        for notation in (" (stat name:word >> n @a . ) ", "\n\n(\nstat\n name: word\n>>\nn@a\n.)\n", "(stat name:word>>n @a.)"):
            self.assertEqual(only(notation), same)


class QueryTest(unittest.TestCase):
    def test_several_forms(self):
        self.assertEqual(read_query(CODE_GRAMMAR, "n word(stat)[n word]"), (
            (node("n"), ()), (node("word"), ()), (node("stat"), ()), (choice(node("n"), node("word")), ()),
        ))
        self.assertEqual(read_query(CODE_GRAMMAR, "n@a word @a"), ((node("n", capture="a"), ()), (node("word", capture="a"), ())))

    def test_tests(self):
        pairs = read_query(CODE_GRAMMAR, '(stat n@a word@b) #is @a "12" #not@b"" #same @a @b#differ@b@b\nn @a #is @a "\\"\\n\\t\\\\`"'.replace("`", ""))
        self.assertEqual(pairs, (
            (
                node("stat", child(node("n", capture="a")), child(node("word", capture="b"))),
                (("is", "a", "12"), ("not", "b", ""), ("same", "a", "b"), ("differ", "b", "b")),
            ),
            (node("n", capture="a"), (("is", "a", '"\n\t\\'),)),
        ))

    def test_kinds_of_values(self):
        query = read_query(CODE_GRAMMAR, 'n @a #is @a "1"')
        self.assertIsInstance(query, tuple)
        self.assertIsInstance(query[0], tuple)
        self.assertIsInstance(query[0][1], tuple)
        self.assertIs(only("(stat n?)")[2][0][3], True)
        self.assertIs(only("(stat n)")[2][0][3], False)

    def test_a_name_after_the_word_of_a_test(self):
        self.assertEqual(read_query(CODE_GRAMMAR, 'n @is #is @is "is" n'), ((node("n", capture="is"), (("is", "is", "is"),)), (node("n"), ())))


class FaultTest(unittest.TestCase):
    def check(self, cases, grammar=CODE_GRAMMAR):
        for notation, place, reason in cases:
            self.assertEqual(raised(read_query, grammar, notation), ("QueryError", place, reason), notation)

    def test_literals(self):
        self.check([
            ('"if', 0, "literal"), ('n "', 2, "literal"), ('"a`"', 0, "literal"), ('"a\\x"', 0, "literal"), ('"', 0, "literal"), ('""', 0, "literal"),
            ('n @a #is @a "x', 12, "literal"), ('n @a #is "x', 9, "literal"), ('(stat "")', 6, "literal"), ('("")', 1, "literal"), ('! "', 0, "word"),
            ('(stat ! "', 8, "literal"), ('(stat ! "x")', 8, "word"), ('n @a #is @a "`"', 12, "literal"), ('"if\\"', 0, "literal"), ('[n ""]', 3, "literal"),
            ('n @a #is "" @a', 9, "word"), ('(stat name:"")', 11, "literal"), ('(stat >> "")', 9, "literal"), ('"\r"', 0, "literal"),
        ])

    def test_kinds(self):
        self.check([
            ("foo", 0, "kind"), ("(foo)", 1, "kind"), ("n foo", 2, "kind"), ("(stat foo)", 6, "kind"), ("(stat >> foo)", 9, "kind"), ("[n foo]", 3, "kind"),
            ("(stat name:foo)", 11, "kind"), ('"foo"', 0, "kind"), ('(stat "#")', 6, "kind"), ("line", 0, "kind"), ("doc~1", 0, "kind"), ("(line)", 1, "kind"),
            ("name", 0, "kind"), ("(stat name)", 6, "kind"), ("other", 0, "kind"), ("neg", 0, "kind"), ("nn", 0, "kind"), ("n1", 0, "kind"), ("is", 0, "kind"),
            ("foo:n", 0, "kind"), ("(stat name :n)", 6, "kind"), ("[name:n n]", 1, "kind"), ("(name:n)", 1, "kind"), ("(stat >> name:n)", 9, "kind"),
            ("(stat name:name:n)", 11, "kind"), ('"n"', 0, "kind"),
        ])
        self.check([("h", 0, "kind"), ("(s h)", 3, "kind"), ("s~1", 0, "kind"), ("y", 0, "kind"), ("deep", 0, "kind")], MIXED)

    def test_labels(self):
        self.check([
            ("(stat foo:n)", 6, "label"), ("(stat !foo)", 7, "label"), ("(stat ! foo)", 8, "label"), ("(stat word:n)", 6, "label"), ("(stat !word)", 7, "label"),
            ("(stat n foo:", 8, "label"), ("(stat foo: )", 6, "label"),
        ])
        self.check([("(s s:x)", 3, "label"), ("(s end1:x)", 3, "label")], MIXED)

    def test_captures(self):
        self.check([
            ("(stat n @a n @a)", 13, "capture"), ("(stat n @a) @a", 12, "capture"), ("[n @a word @a]", 11, "capture"), ("[n @a (stat word @a)]", 17, "capture"),
            ('n #is @a "x"', 6, "capture"), ('n @a #is @b "x"', 9, "capture"), ("n @a #same @a @b", 14, "capture"), ("n @a #same @b @a", 11, "capture"),
            ('n @a word #is @a "x"', 14, "capture"), ("n @a word @b #same @b @a", 22, "capture"), ("(stat n @a n@a", 12, "capture"),
        ])

    def test_deep(self):
        inner = "(stat " * 12 + "n" + ")" * 12
        self.assertEqual(str(read_query(CODE_GRAMMAR, inner)).count("'stat'"), 12)
        self.assertEqual(str(read_query(CODE_GRAMMAR, "[n " * 12 + "n" + "]" * 12)).count("'choice'"), 12)
        self.assertEqual(len(read_query(CODE_GRAMMAR, inner + inner + "(n)")), 3)
        self.check([
            ("(stat " * 13 + "n" + ")" * 13, 72, "deep"), ("[n " * 13, 36, "deep"), ("(stat " * 12 + "[", 72, "deep"), ("[n " * 12 + "(", 36, "deep"),
            ("(stat " * 6 + "[n " * 6 + "(", 54, "deep"), ("(stat " * 12 + "n (", 74, "deep"), ("(stat " * 12 + ">> (", 75, "deep"),
            ("(stat " * 12 + "name: (", 78, "deep"), ("(stat " * 12 + "! (", 74, "word"), ("(stat " * 11 + "((", 67, "word"), ("(stat " * 12 + "(foo", 72, "deep"),
        ])

    def test_missing_tokens(self):
        self.check([
            ("", 0, "word"), ("  \n ", 4, "word"), ("(", 1, "word"), ("(stat", 5, "word"), ("(stat  ", 7, "word"), ("(stat n", 7, "word"), ("[", 1, "word"),
            ("[n", 2, "word"), ("[n n", 4, "word"), ("(stat >>", 8, "word"), ("(stat !", 7, "word"), ("(stat name:", 11, "word"), ("n @a #is", 8, "word"),
            ("n @a #is @a", 11, "word"), ("n @a #is @a ", 12, "word"), ("n @a #same @a", 13, "word"), ("n @a #same", 10, "word"), ("(stat .", 7, "word"),
        ])

    def test_words(self):
        self.check([
            (")", 0, "word"), ("]", 0, "word"), (".", 0, "word"), ("!name", 0, "word"), (">> n", 0, "word"), ("n ?", 2, "word"), ("n :", 2, "word"),
            ("n:n", 1, "word"), ("()", 1, "word"), ("[]", 1, "word"), ("[n]", 2, "word"), ("(stat ? n)", 6, "word"), ("(stat n ??)", 9, "word"),
            ("(stat . ?)", 8, "word"), ("(stat !name ?)", 12, "word"), ("(stat >> n ?)", 11, "word"), ("(stat >> .)", 9, "word"), ("(stat >> >> n)", 9, "word"),
            ("(stat >> !name)", 9, "word"), ("(stat name: .)", 12, "word"), ("(stat name: !name)", 12, "word"), ("(stat name: >> n)", 12, "word"),
            ("(stat !name:n)", 11, "word"), ("(stat : n)", 6, "word"), ("[n .]", 3, "word"), ("[n ?]", 3, "word"), ("[. n]", 1, "word"), ("(n]", 2, "word"),
            ("[n n)", 4, "word"), ("n)", 1, "word"), ("n n]", 3, "word"), ("(.)", 1, "word"), ("([n n])", 1, "word"), ("(stat (n)", 9, "word"),
            ("@a", 0, "word"), ("(@a)", 1, "word"), ("(stat @a)", 6, "word"), ("(stat . @a)", 8, "word"), ("(stat !name @a)", 12, "word"), ("[@a n]", 1, "word"),
            ("(stat n? @a)", 9, "word"), ("(stat name @a:n)", 6, "kind"), ("(stat >> @a n)", 9, "word"),
        ])

    def test_words_in_tests(self):
        self.check([
            ('#is @a "x"', 0, "word"), ('n @a #is "x" @a', 9, "word"), ("n @a #is @a @a", 12, "word"), ("n @a #is @a n", 12, "word"), ('n @a #same @a "x"', 14, "word"),
            ('(stat n @a #is @a "x")', 11, "word"), ("n @a #iss @a", 5, "word"), ("n @a #", 5, "word"), ("n @a # is", 5, "word"), ("n @a #i", 5, "word"),
            ("n @a #is1", 8, "word"), ('n @a #is @a "x" @b', 16, "word"), ("n @a #is a", 9, "word"), ("n @a #is#is", 8, "word"), ("n @a #samedi", 5, "word"),
            ("n @a #Is", 5, "word"), ('[n #is @a "" n]', 3, "word"), ('n @a #is @a "x" "y"', 16, "kind"), ('n @a #is @a "x" . ', 16, "word"),
        ])

    def test_anchors_next_to_each_other(self):
        self.check([("(stat . .)", 8, "word"), ("(stat..)", 6, "word"), ("(stat n . . n)", 10, "word")])
        self.assertEqual(only("(stat . >> n . n .)")[2][2], ANCHOR)

    def test_a_second_capture(self):
        self.check([
            ("n @a @b", 5, "word"), ("n @a @a", 5, "word"), ("(stat n @a @a)", 11, "word"), ("(stat n @a\n@b)", 11, "word"), ("[n @a@a n]", 5, "word"),
            ("(n) @a @b", 7, "word"), ("[n n] @a @a", 9, "word"), ("(stat n @b) @a @b", 15, "word"),
        ])

    def test_characters_that_begin_no_token(self):
        self.check([
            ("A", 0, "word"), ("n 1", 2, "word"), ("(stat\tn)", 5, "word"), ("n @", 2, "word"), ("n @ a", 2, "word"), ("n @1", 2, "word"), ("n @_", 2, "word"),
            ("n @A", 2, "word"), ("n > n", 2, "word"), ("(stat > > n)", 6, "word"), ("(stat >", 6, "word"), ("n,n", 1, "word"), ("`", 0, "word"),
            ("n ~", 2, "word"), ("n'", 1, "word"), ("(stat n=n)", 7, "word"), ("\\", 0, "word"), ("n|n", 1, "word"), ("n @@a", 2, "word"),
            ("(stat >>> n)", 8, "word"), ("n*", 1, "word"),
        ])

    def test_the_first_fault_from_the_left(self):
        self.check([
            ('foo "', 0, "kind"), ('(foo "x', 1, "kind"), ("(stat foo:`)", 6, "label"), ("foo`", 0, "kind"), ('n @a #is @b "x', 9, "capture"), ('(stat n @a n @a "', 13, "capture"),
            ("(stat . .`", 8, "word"), ("(stat " * 12 + "(`", 72, "deep"), ('""`', 0, "literal"), ("n ) foo", 2, "word"), ("[n]`", 2, "word"), ("n @a @a`", 5, "word"),
            ("n @a #is @b foo", 9, "capture"), ("(foo bar:", 1, "kind"), ("(stat !foo`", 7, "label"), ("() @a @a", 1, "word"),
        ])

    def test_no_labels_at_all(self):
        self.check([("(sum a:n)", 5, "label"), ("(sum !a)", 6, "label"), ("(sum :n)", 5, "word")], TINY_GRAMMAR)


if __name__ == "__main__":
    unittest.main()
