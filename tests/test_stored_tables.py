"""[3.7]: the written form of tables."""

import unittest

from mendedtree.grammar.notation import read_grammar
from mendedtree.signs.lexicon import Lexicon
from mendedtree.tables.building import build_table
from mendedtree.tables.stored import read_table, write_table
from tests.grammars import CODE, SAMPLES, TINY, random_grammars
from tests.helpers import raised

GRAMMAR = read_grammar(TINY)
WRITTEN = """state 0 n shift 1 sum goto 2
state 1 "+" reduce 1 end reduce 1
state 2 "+" shift 3 end accept
state 3 n shift 1 sum goto 4
state 4 "+" reduce 0 end reduce 0
clash sum "+" sum : "+" : shift reduce 0 : reduce 0 : side
"""
SPACES = read_grammar('language a\nkind shift = "s"\nkind accept = "a"\nrule goto = "x y" shift | "\\" " accept | "\\\\" state\nrule state = | "\\n"\n')


def everything(table):
    actions = [[table.action(state, kind) for kind in table.lexicon.names + ("end",)] for state in range(table.count)]
    gotos = [[table.goto(state, rule) for rule in table.grammar.rules] for state in range(table.count)]
    offers = [(list(table.offers(state).items()), table.skipped(state)) for state in range(table.count)]
    return table.count, actions, gotos, offers, table.clashes


class WriteTest(unittest.TestCase):
    def test_examples(self):
        table = build_table(read_grammar('language b\nrule s = "x"\n'))
        self.assertEqual(write_table(table), 'state 0 "x" shift 1 s goto 2\nstate 1 end reduce 0\nstate 2 end accept\n')
        self.assertEqual(write_table(build_table(GRAMMAR)), WRITTEN)

    def test_a_state_without_keys(self):
        grammar = read_grammar("language d\nkind n = [0-9]\nstep none n\nrule s = t n\nrule t = n | n n\n")
        lines = write_table(build_table(grammar)).split("\n")
        self.assertIn("state 1", lines)
        self.assertIn("clash n : n : shift reduce 1 : error : side", lines)

    def test_a_clash_at_the_beginning(self):
        grammar = read_grammar("language d\nrule s = t | r\nrule t =\nrule r =\n")
        self.assertIn("clash : end : reduce 2 reduce 3 : reduce 2 : order\n", write_table(build_table(grammar)))

    def test_words_of_any_kind(self):
        written = write_table(build_table(SPACES))
        self.assertIn('state 0 "\\" " shift ', written)
        self.assertIn(' "x y" shift ', written)


class ReadTest(unittest.TestCase):
    def test_what_was_written(self):
        grammars = [read_grammar(notation) for notation in SAMPLES] + [SPACES] + random_grammars(9, 100)
        for grammar in grammars:
            table = build_table(grammar)
            again = read_table(grammar, write_table(table))
            self.assertEqual(everything(again), everything(table))
            self.assertEqual(again.grammar, grammar)
            self.assertIsInstance(again.lexicon, Lexicon)
            self.assertEqual(write_table(again), write_table(table))
            self.assertEqual(again.parting(0, table.count - 1), table.parting(0, table.count - 1))

    def test_any_table_of_this_form(self):
        notation = 'state 0 "+" accept n reduce 1 end shift 1 sum goto 0\nstate 1\n' \
            'clash n sum n "+" : end : accept shift reduce 1 reduce 1 : error : step\nclash : n : accept : shift : order\n'
        table = read_table(GRAMMAR, notation)
        self.assertEqual(table.count, 2)
        self.assertEqual(list(table.offers(0).items()), [('"+"', ("accept",)), ("n", ("reduce", 1)), ("end", ("shift", "end"))])
        self.assertEqual((table.action(0, "end"), table.goto(0, "sum"), table.offers(1)), (("shift", 1), 0, {}))
        candidates = (("accept",), ("shift",), ("reduce", 1), ("reduce", 1))
        self.assertEqual(table.clashes, (
            (("n", "sum", "n", '"+"'), "end", candidates, ("error",), "step"), ((), "n", (("accept",),), ("shift",), "order"),
        ))
        self.assertEqual(write_table(table), notation)

    def test_equal_states_are_not_parted(self):
        table = read_table(GRAMMAR, "state 0 n shift 1\nstate 1 n shift 0\nstate 2 n shift 1 sum goto 0\n")
        self.assertIsNone(table.parting(0, 1))
        self.assertEqual(table.parting(0, 2), ((), "sum"))

    def test_a_large_table(self):
        grammar = read_grammar(CODE)
        written = write_table(build_table(grammar))
        self.assertEqual(write_table(read_table(grammar, written)), written)


class FaultTest(unittest.TestCase):
    def check(self, line, notation):
        self.assertEqual(raised(read_table, GRAMMAR, notation), ("TableError", line), notation)

    def test_without_a_state(self):
        for notation in ("", "\n", "\n\n\n", "x", "state", "state\n", "clash : n : shift : shift : order\n", " state 0\n", "state\t0\n", "statement 0\n"):
            self.check(1, notation)

    def test_a_missing_newline_at_the_end(self):
        self.check(1, "state 0")
        self.check(2, "state 0\nstate 1")
        self.check(6, WRITTEN[:-1])
        self.check(2, "state 0\nx")
        # An earlier fault comes first; the number of states counts the last line, too.
        self.check(1, "state 0 n shift 2\nstate 1")
        self.check(2, "state 0 n shift 1\nstate 1")

    def test_empty_lines_and_spaces(self):
        for line, notation in (
            (2, "state 0\n\n"), (1, "\nstate 0\n"), (1, "state 0 \n"), (1, " state 0\nstate 1\n"), (1, "state  0\n"), (1, "state 0  n accept\n"),
            (1, "state 0\tn accept\n"), (2, "state 0\n \n"), (1, "state 0 n shift 0 \n"), (2, "state 0\nclash : n : shift : shift : order \n"),
            (2, "state 0\nclash  : n : shift : shift : order\n"),
        ):
            self.check(line, notation)

    def test_numbers_of_states(self):
        for line, notation in (
            (1, "state 1\nstate 0\n"), (2, "state 0\nstate 0\n"), (2, "state 0\nstate 2\nstate 1\n"), (1, "state 00\n"), (1, "state -1\n"),
            (1, "state +0\n"), (1, "state n\n"), (1, 'state "+"\n'), (1, "state " + "9" * 5000 + "\n"), (1, "state \n"),
        ):
            self.check(line, notation)

    def test_leading_zeros(self):
        states = "".join(f"state {number}\n" for number in range(1, 12))
        self.check(1, "state 0 n shift 01\n" + states)
        self.check(1, "state 0 sum goto 09\n" + states)
        self.check(1, "state 0 n shift 12\n" + states)
        self.check(2, "state 0\n" + states.replace("state 1\n", "state 01\n"))
        self.assertEqual(read_table(GRAMMAR, "state 0 n shift 11\n" + states).action(0, "n"), ("shift", 11))

    def test_states_and_clashes(self):
        clash = "clash : n : shift : shift : order\n"
        self.check(2, clash + "state 0\n")
        self.check(3, "state 0\n" + clash + "state 1\n")
        self.check(3, "state 0\n" + clash + "state 1 x\n")
        self.check(2, "state 0\ntable\n")
        self.check(2, "state 0\nclashes : n : shift : shift : order\n")

    def test_states_with_wrong_words(self):
        for words in (
            "n", "n shift", "n shift 1", "n shift 00", "n shift -1", "n shift n", "n reduce", "n reduce 2", "n reduce 01", "n accept 0", "n error",
            "n goto 0", "sum shift 0", "sum goto", "sum goto 1", "sum accept", "sum", "m shift 0", '"-" shift 0', '"+ shift 0', '"+', '"+"" accept',
            '"+"n accept', '"+"xaccept', '"+""accept', "+ accept", "end", "end error", "end goto 0", "root accept", "error accept", "n shift " + "1" * 5000,
            "n accept n accept", "end accept n accept", 'n accept "+" accept', "sum goto 0 end accept", "sum goto 0 sum goto 0", "n accept :",
            '"\\+" accept', '"+\\" accept', "shift 0", "n shift 0 0", ":",
        ):
            self.check(1, "state 0 " + words + "\n")

    def test_clashes_with_wrong_words(self):
        self.assertIsNone(raised(read_table, GRAMMAR, "state 0\nclash : n : shift : shift : order\n"))
        for words in (
            "", "n", ":", ": n", ": n :", ": n : :", ": n : : shift : order", ": n : shift", ": n : shift :", ": n : shift : :", ": n : shift : shift",
            ": n : shift : shift :", ": n : shift : shift : last", ": n : shift : shift : order order", ": n : shift : shift : order :",
            ": n : error : shift : order", ": n : shift error : shift : order", ": n : shift 0 : shift : order", ": n : reduce : shift : order",
            ": n : reduce 2 : shift : order", ": n : shift : reduce 2 : order", ": n : shift : reduce : order", ": n : shift : error 1 : order",
            ": sum : shift : shift : order", ": root : shift : shift : order", "end : n : shift : shift : order", "m : n : shift : shift : order",
            ": n n : shift : shift : order", "shift : n : shift : shift : order", ": n : shift : shift shift : order", ": : shift : shift : order",
            ": n : goto 0 : shift : order", '":" n : shift : shift : order', ": n : shift : goto 0 : order", ": n : reduce 00 : shift : order",
        ):
            self.check(2, "state 0\nclash " + words + "\n")
        self.check(2, "state 0\nclash\n")

    def test_literals_with_spaces(self):
        for words in ('"x  y" accept', '"x accept', '"x y" shift', 'x y" accept', '"\\" accept', "shift accept 0", "accept shift"):
            self.assertEqual(raised(read_table, SPACES, "state 0 " + words + "\n"), ("TableError", 1), words)
        self.assertEqual(read_table(SPACES, 'state 0 "\\" " accept "\\\\" accept "x y" accept shift shift 0 accept accept\n').count, 1)

    def test_nothing_is_changed_by_an_error(self):
        before = dict(vars(GRAMMAR))
        self.check(2, "state 0\nx\n")
        self.assertEqual(dict(vars(GRAMMAR)), before)


if __name__ == "__main__":
    unittest.main()
