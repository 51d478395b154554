"""[1.2] to [1.5]: the notation of patterns."""

import random
import unittest

from mendedtree.errors import PatternError
from mendedtree.signs.alphabet import PLAIN
from mendedtree.signs.pattern import read_pattern, write_pattern
from tests.helpers import random_pattern

A = ("set", "a")
B = ("set", "b")
C = ("set", "c")
EMPTY = ("row", ())


class ReadTest(unittest.TestCase):
    def check(self, pairs):
        for notation, pattern in pairs:
            self.assertEqual(read_pattern(notation), pattern, notation)

    def test_example(self):
        self.check([('"ab" [0-2]*', ("row", (A, B, ("repeat", ("set", "012"), 0, None))))])

    def test_literals(self):
        self.check([
            ('"a"', A), ('""', EMPTY), ('"ab"', ("row", (A, B))), ('"\\n"', ("set", "\n")), ('"\\t"', ("set", "\t")),
            ('"\\\\"', ("set", "\\")), ('"\\""', ("set", '"')), ('"\n"', ("set", "\n")), ('"\t"', ("set", "\t")),
            ('" "', ("set", " ")), ('"[-^|"', ("row", (("set", "["), ("set", "-"), ("set", "^"), ("set", "|")))),
            ('"a\\n"', ("row", (A, ("set", "\n")))), ('"#~"', ("row", (("set", "#"), ("set", "~")))),
        ])

    def test_sets(self):
        self.check([
            ("[a]", A), ("[ba]", ("set", "ab")), ("[aab]", ("set", "ab")), ("[a-c]", ("set", "abc")),
            ("[0-2a-c]", ("set", "012abc")), ("[a-a]", A), ("[\\n\\t]", ("set", "\t\n")), ("[\\\\]", ("set", "\\")),
            ("[\\]]", ("set", "]")), ("[\\-]", ("set", "-")), ("[\\^]", ("set", "^")), ("[a^]", ("set", "^a")),
            ("[_-a]", ("set", "_a")), ("[$-&]", ("set", "$&")), ("[[(|\".?]", ("set", '"(.?[|')), ("[ ]", ("set", " ")),
            ("[\t-\n]", ("set", "\t\n")), ("[\\t-\\n]", ("set", "\t\n")), ("[\n]", ("set", "\n")),
            ("[+-\\-]", ("set", "+,-")), ("[\\--/]", ("set", "-./")),
            ("[A-^]", ("set", PLAIN[PLAIN.index("A"):PLAIN.index("_")])),
        ])

    def test_inverted_sets(self):
        self.check([
            ("[^]", ("set", PLAIN)), ("[^a]", ("set", PLAIN.replace("a", ""))),
            ("[^^]", ("set", PLAIN.replace("^", ""))), ("[^\t-}]", ("set", "~")), ("[^\\]]", ("set", PLAIN.replace("]", ""))),
            ("[^a-y]", ("set", "".join(char for char in PLAIN if not "a" <= char <= "y"))), (".", ("set", PLAIN.replace("\n", ""))),
        ])

    def test_suffixes(self):
        self.check([
            ('"a"?', ("repeat", A, 0, 1)), ('"a"*', ("repeat", A, 0, None)), ('"a"+', ("repeat", A, 1, None)),
            ('"a"{3}', ("repeat", A, 3, 3)), ('"a"{0,4}', ("repeat", A, 0, 4)), ('"a"{2,9}', ("repeat", A, 2, 9)),
            ('"a"{1}', ("repeat", A, 1, 1)), ('"a"{5,5}', ("repeat", A, 5, 5)),
            ('"a"?*', ("repeat", ("repeat", A, 0, 1), 0, None)), ('"ab"*', ("repeat", ("row", (A, B)), 0, None)),
            ('"a" "b"*', ("row", (A, ("repeat", B, 0, None)))), ('.{2}+', ("repeat", ("repeat", read_pattern("."), 2, 2), 1, None)),
            ('("a" | "b")+', ("repeat", ("choice", (A, B)), 1, None)), ('""*', ("repeat", EMPTY, 0, None)),
        ])

    def test_spaces(self):
        plain = read_pattern('("a"|[b])*"c"{2}|.')
        self.assertEqual(read_pattern('  (  "a"  |  [b]  )  *  "c"  {2}  |  .  '), plain)
        self.assertEqual(read_pattern(' "a" ?  * '), read_pattern('"a"?*'))

    def test_merging(self):
        self.check([
            ('"" "a"', A), ('"" ""', EMPTY), ('"a" ("b" "c")', ("row", (A, B, C))), ('(("a"))', A),
            ('"a" | ("b" | "c")', ("choice", (A, B, C))), ('(("a" | "b") | "c")', ("choice", (A, B, C))),
            ('("a" | "b") "c"', ("row", (("choice", (A, B)), C))), ('"" | "a"', ("choice", (EMPTY, A))),
            ('("" | "a") ""', ("choice", (EMPTY, A))), ('"a" | "a"', ("choice", (A, A))), ('"ab" "c"', ("row", (A, B, C))),
            ('"a" ("" ("b")) | ("c" | (""))', ("choice", (("row", (A, B)), C, EMPTY))),
        ])

    def test_twelve_parentheses(self):
        notation = "(" * 12 + '"a"' + ")?" * 12
        pattern = A
        for _ in range(12):
            pattern = ("repeat", pattern, 0, 1)
        self.assertEqual(read_pattern(notation), pattern)
        self.assertEqual(read_pattern('("a" | "b" ' * 12 + ')' * 12)[0], "choice")


class FaultsTest(unittest.TestCase):
    def check(self, reason, pairs):
        for notation, place in pairs:
            with self.assertRaises(PatternError, msg=notation) as caught:
                read_pattern(notation)
            self.assertEqual((caught.exception.place, caught.exception.reason), (place, reason), notation)
            self.assertEqual(read_pattern('"a"?'), ("repeat", A, 0, 1))

    def test_example(self):
        self.check("range", [('("a" | [b-a])', 8)])

    def test_empty(self):
        self.check("empty", [
            ("", 0), ("   ", 3), ("[]", 0), (' "a" []', 5), ("[^\t-~]", 0), ("()", 1), ("( )", 2), ("(", 1), ("( ", 2),
            ("((", 2), ("|", 0), ('"a"|', 4), ('"a" | ', 6), ('"a"||"b"', 4), ('"a"|)', 4), (")", 0), ('("a"|)', 5),
            ('("a"|', 5), ('(("a")|', 7), ('"a" ( | "b")', 6),
        ])

    def test_stray(self):
        self.check("stray", [('"`"', 1), ('"ab`', 3), ("[a`]", 2), ("[`]", 1), ("[a-`]", 3), ("[`-a]", 1), ("[^`]", 2)])

    def test_escape(self):
        self.check("escape", [
            ('"\\a"', 1), ('"a\\', 2), ('"\\]"', 1), ('"\\-"', 1), ('"\\^"', 1), ('"\\`"', 1), ("[\\a]", 1), ('[\\"]', 1),
            ("[\\", 1), ("[a-\\", 3), ("[a-\\q]", 3), ("[^\\`", 2), ('"\\\n"', 1), ('("a\\', 3),
        ])

    def test_open(self):
        self.check("open", [
            ('"', 0), ('"a', 0), ('"a" "b', 4), ("[", 0), ("[a", 0), ("[^", 0), ("[a-", 0), ("[^a-z", 0), ('("a"', 0),
            ('(("a"', 1), ('(("a")', 0), ('("a" "b', 5), ('("a" [b', 5), ('("a" | ("b" "c") ', 0), ('("a"*  ', 0), ('"\\"', 0),
        ])

    def test_range(self):
        self.check("range", [("[b-a]", 1), ("[ab-a]", 2), ("[a-z\\]-A", 4), ("[a-\\^]", 1), ("[^~-\\n]", 2), ("[\\--\\n]", 1)])

    def test_count(self):
        self.check("count", [
            ('"a"{', 3), ('"a"{}', 3), ('"a"{0}', 3), ('"a"{0,0}', 3), ('"a"{2,1}', 3), ('"a"{12}', 3), ('"a"{1,12}', 3),
            ('"a"{ 1}', 3), ('"a"{1 }', 3), ('"a"{1, 2}', 3), ('"a"{1', 3), ('"a"{1,', 3), ('"a"{1,2', 3), ('("a"{1,2', 4),
            ('"a"{,2}', 3), ('"a"{2,}', 3), ('"a"{x}', 3), ('"a"{1,2,3}', 3), ('("a"{', 4), ('"a"{-1}', 3), ('"a" * {`}', 6),
        ])

    def test_deep(self):
        self.check("deep", [("(" * 13, 12), ("(" * 13 + '"a"' + ")" * 13, 12), ('("a"' * 12 + " (", 49)])

    def test_character(self):
        self.check("character", [
            ("a", 0), ("*", 0), ("?", 0), ("+", 0), ("{", 0), ("{2}", 0), ('"a" | *', 6), ("(?", 1), ('"a")', 3), ('"a" ) "b"', 4),
            ("]", 0), ("}", 0), ('"a"}', 3), ("\\n", 0), ('"a"\n"b"', 3), ("\t", 0), ("`", 0), ('"a" `', 4), ("[-a]", 1), ("[a-]", 2),
            ("[a--]", 2), ("[a-b-c]", 4), ("[^-a]", 2), ("-", 0), ("^", 0), ('"a" , "b"', 4), ("#", 0), ("[a-c-]", 4), ('"a"|{1}', 4),
        ])

    def test_what_is_no_character(self):
        self.check("character", [('"a%"', 2), ("[a%]", 2), ("[a-%]", 3), ("%", 0), ('"\r"', 1), ('"a" \xe9', 4)])

    def test_the_first_fault_that_is_met(self):
        self.check("stray", [('"a`\\q', 2), ("[`-\\q]", 1), ('"`', 1)])
        self.check("escape", [('"\\q`', 1), ("[b-\\q]", 3)])
        self.check("range", [("[b-a", 1), ("[b-a`]", 1), ("[b-a-]", 1)])
        self.check("stray", [("[b-`", 3)])
        self.check("character", [('*"', 0), ("[-`]", 1), ('"a")(', 3)])
        self.check("empty", [("[]`", 0), ("|`", 0), ("()*", 1)])
        self.check("count", [('"a"{2,1}`', 3), ('"a"{`', 3)])
        self.check("open", [("[a^-", 0)])


class WriteTest(unittest.TestCase):
    def check(self, pairs):
        for pattern, notation in pairs:
            self.assertEqual(write_pattern(pattern), notation)
            self.assertEqual(read_pattern(notation), pattern)

    def test_example(self):
        pattern = ("choice", (A, ("repeat", ("row", (B, ("set", '"'))), 1, None)))
        self.check([(pattern, '"a" | "b\\""+')])

    def test_sets(self):
        self.check([
            (A, '"a"'), (("set", "abc"), "[abc]"), (("set", "\t\n"), "[\\t\\n]"), (("set", "-\\]^"), "[\\-\\\\\\]\\^]"),
            (("set", '"['), '["[]'), (("set", "-"), '"-"'), (("set", "^"), '"^"'), (("set", "]"), '"]"'), (("set", '"'), '"\\""'),
            (("set", "\n"), '"\\n"'), (("set", "\t"), '"\\t"'), (("set", "\\"), '"\\\\"'), (("set", "^a"), "[\\^a]"),
        ])

    def test_all_plain_characters(self):
        written = write_pattern(("set", PLAIN))
        self.assertEqual(len(written), 95 + 2 + 6)
        self.assertEqual(read_pattern(written), ("set", PLAIN))

    def test_rows(self):
        self.check([
            (EMPTY, '""'), (("row", (A, B)), '"ab"'), (("row", (A, ("set", "bc"), B, C)), '"a" [bc] "bc"'),
            (("row", (("set", "ab"), ("set", "ab"))), "[ab] [ab]"), (("row", (("choice", (A, B)), C)), '("a" | "b") "c"'),
            (("row", (A, ("repeat", B, 0, 1), C)), '"a" "b"? "c"'), (("row", (A, ("repeat", ("row", (B, C)), 0, 1))), '"a" "bc"?'),
        ])

    def test_choices(self):
        self.check([
            (("choice", (A, EMPTY, ("row", (A, B)))), '"a" | "" | "ab"'),
            (("choice", (("row", (("choice", (A, B)), C)), A)), '("a" | "b") "c" | "a"'),
        ])

    def test_repeats(self):
        self.check([
            (("repeat", A, 0, 1), '"a"?'), (("repeat", A, 0, None), '"a"*'), (("repeat", A, 1, None), '"a"+'),
            (("repeat", A, 1, 1), '"a"{1}'), (("repeat", A, 4, 4), '"a"{4}'), (("repeat", A, 0, 4), '"a"{0,4}'),
            (("repeat", A, 2, 3), '"a"{2,3}'), (("repeat", EMPTY, 0, 1), '""?'), (("repeat", ("set", "ab"), 0, 1), "[ab]?"),
            (("repeat", ("row", (A, B)), 0, 1), '"ab"?'), (("repeat", ("row", (A, ("set", "ab"))), 0, 1), '("a" [ab])?'),
            (("repeat", ("choice", (A, B)), 0, 1), '("a" | "b")?'), (("repeat", ("repeat", A, 0, 1), 0, None), '("a"?)*'),
            (("repeat", ("row", (A, ("repeat", B, 0, 1))), 1, None), '("a" "b"?)+'),
        ])

    def test_reading_what_was_written(self):
        chance = random.Random(1)
        for depth in (1, 2, 3, 4, 5, 6):
            for _ in range(150):
                pattern = random_pattern(chance, 'ab-]^\\"\n\t', depth)
                self.assertEqual(read_pattern(write_pattern(pattern)), pattern)


if __name__ == "__main__":
    unittest.main()
