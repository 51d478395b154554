"""[3.1] to [3.6], [3.8]: building tables."""

import random
import time
import unittest

from mendedtree.grammar.grammar import Grammar
from mendedtree.grammar.notation import read_grammar
from mendedtree.signs.lexicon import Lexicon
from mendedtree.tables.building import build_table
from tests.grammars import CODE, LISTS, TINY, random_grammars
from tests.slow_tables import SlowTable

DIGITS = 'language d\nkind n = [0-9]\n'


def table_of(*lines):
    return build_table(read_grammar(DIGITS + "\n".join(lines)))


def clash_reasons(table):
    return [(kind, chosen, reason) for _, kind, _, chosen, reason in table.clashes]


class ExampleTest(unittest.TestCase):
    def test_tiny(self):
        table = build_table(read_grammar(TINY))
        self.assertEqual([name for name, _ in table.grammar.kinds], ['"+"', "n"])
        clash = (("sum", '"+"', "sum"), '"+"', (("shift",), ("reduce", 0)), ("reduce", 0), "side")
        self.assertEqual(table.clashes, (clash,))
        found = [table.count, table.action(4, '"+"'), table.action(3, "n"), table.goto(3, "sum"), table.parting(1, 4)]
        self.assertEqual(found, [5, ("reduce", 0), ("shift", 1), 4, ((), '"+"')])

    def test_attributes(self):
        grammar = read_grammar(CODE)
        table = build_table(grammar)
        self.assertEqual(table.grammar, grammar)
        self.assertIsInstance(table.lexicon, Lexicon)
        self.assertEqual((table.lexicon.names, table.lexicon.skip), (tuple(name for name, _ in grammar.kinds), "\n "))
        self.assertIsInstance(table.clashes, tuple)

    def test_errors_and_missing_ways(self):
        table = build_table(read_grammar(TINY))
        self.assertEqual([table.action(0, '"+"'), table.action(0, "end"), table.action(2, "end")], [("error",), ("error",), ("accept",)])
        self.assertEqual([table.goto(1, "sum"), table.goto(0, "sum")], [-1, 2])


class OffersTest(unittest.TestCase):
    def test_order_and_values(self):
        table = build_table(read_grammar(TINY))
        self.assertEqual(list(table.offers(1).items()), [('"+"', ("reduce", 1)), ("end", ("reduce", 1))])
        self.assertEqual(list(table.offers(2).items()), [('"+"', ("shift", '"+"')), ("end", ("accept",))])
        self.assertEqual(table.offers(3), {"n": ("shift", "n")})

    def test_a_change_of_what_is_returned(self):
        table = build_table(read_grammar(TINY))
        table.offers(3).clear()
        self.assertEqual(table.offers(3), {"n": ("shift", "n")})

    def test_skipped(self):
        table = build_table(read_grammar('language a\nskip [ \\n\\-]\nrule s = "-" "\\nx" "y"\n'))
        self.assertEqual([table.skipped(state) for state in range(4)], ["\n ", " -", "\n -", "\n -"])

    def test_a_state_without_keys(self):
        # After the first n the kind n is an error, because of the side none, and no other kind can follow.
        table = table_of("skip [ ]", "step none n", "rule s = t n", "rule t = n | n n")
        empty = [state for state in range(table.count) if not table.offers(state)]
        self.assertEqual(len(empty), 1)
        self.assertEqual(table.skipped(empty[0]), " ")
        self.assertEqual([table.action(empty[0], kind) for kind in ("n", "end")], [("error",)] * 2)
        self.assertEqual(clash_reasons(table), [("n", ("error",), "side")])


class ChoiceTest(unittest.TestCase):
    """Each case of [3.3]."""

    def test_no_clash(self):
        self.assertEqual(table_of('rule s = s "x" n | n').clashes, ())

    def test_the_lowest_of_several_reductions(self):
        table = table_of('rule s = t | r', "rule t = n", "rule r = n")
        self.assertEqual(table.clashes, ((("n",), "end", (("reduce", 2), ("reduce", 3)), ("reduce", 2), "order"),))

    def test_three_reductions_and_a_shift(self):
        table = table_of("rule s = t n | r n | q n | n n", "rule t = n", "rule r = n", "rule q = n")
        candidates = (("shift",), ("reduce", 4), ("reduce", 5), ("reduce", 6))
        self.assertEqual(table.clashes, ((("n",), "n", candidates, ("shift",), "order"),))
        table = table_of("step left n", "rule s = t n | r n | q n | n n", "rule t = n", "rule r = n", "rule q = n")
        self.assertEqual(table.clashes, ((("n",), "n", candidates, ("reduce", 4), "side"),))

    def test_equal_steps_of_each_side(self):
        body = 'rule e = e "+" e | e "-" e | n'
        for side, chosen in (("left", ("reduce", 0)), ("right", ("shift",)), ("none", ("error",))):
            reasons = clash_reasons(table_of(f'step {side} "+" "-"', body))
            self.assertEqual(len(reasons), 4)
            self.assertEqual(reasons[0], ('"+"', chosen, "side"))
            self.assertEqual(reasons[1], ('"-"', chosen, "side"))

    def test_a_later_step(self):
        table = table_of('step left "+"', 'step right "*"', 'rule e = e "+" e | e "*" e | n')
        self.assertEqual(clash_reasons(table), [
            ('"*"', ("shift",), "side"), ('"+"', ("reduce", 1), "step"),
            ('"*"', ("shift",), "step"), ('"+"', ("reduce", 0), "side"),
        ])

    def test_without_steps(self):
        self.assertEqual(clash_reasons(table_of('rule e = e "+" e | n')), [('"+"', ("shift",), "order")])
        table = table_of('step left "+"', 'rule e = e "+" e | e "-" e | n')
        self.assertEqual(set(clash_reasons(table)), {
            ('"+"', ("reduce", 0), "side"), ('"-"', ("shift",), "order"), ('"+"', ("shift",), "order"),
        })

    def test_the_member_behind_the_at_sign(self):
        lines = ['step left "+"', 'step left "*"', "step left neg"]
        table = table_of(*lines, 'rule e = e "+" e | "+" e @neg | n')
        self.assertIn(('"+"', ("reduce", 1), "step"), clash_reasons(table))
        table = table_of(*lines, 'rule e = e "+" e | e "*" e @"+" | n')
        self.assertIn(('"+"', ("reduce", 1), "side"), clash_reasons(table))
        self.assertIn(('"*"', ("shift",), "step"), clash_reasons(table))

    def test_a_member_behind_the_at_sign_that_is_in_no_step(self):
        table = table_of('step left "+"', 'rule e = e "+" e @n | n')
        self.assertEqual(clash_reasons(table), [('"+"', ("shift",), "order")])

    def test_only_the_last_kind_counts(self):
        table = table_of('step left "+"', 'rule e = e "+" "-" e | n')
        self.assertEqual(clash_reasons(table), [('"+"', ("shift",), "order")])
        table = table_of('step left "-"', 'step right "+"', 'rule e = e "+" e "-" e | n')
        self.assertIn(('"+"', ("shift",), "step"), clash_reasons(table))

    def test_accept_comes_first(self):
        # A ring is a fault in a notation, but it shows what is chosen if the end has several candidates.
        ring = Grammar("r", kinds=[("x", ("set", "x"))], rules=["s"], alternatives=[("s", ("s",), ("",), ""), ("s", ("x",), ("",), "")])
        self.assertEqual(build_table(ring).clashes, ((("s",), "end", (("reduce", 0), ("accept",)), ("accept",), "order"),))

    def test_a_clash_for_the_end(self):
        table = table_of("rule s = t | r | q", "rule t = ", "rule r = ", "rule q = n")
        self.assertEqual(table.clashes, (((), "end", (("reduce", 3), ("reduce", 4)), ("reduce", 3), "order"),))

    def test_a_clash_in_each_item_state(self):
        table = table_of('rule s = "a" t "b" | "c" t "d"', "rule t = n | r", "rule r = n")
        self.assertEqual([(row, kind) for row, kind, _, _, _ in table.clashes], [(('"a"', "n"), '"b"'), (('"c"', "n"), '"d"')])

    def test_no_way_behind_a_shift_that_is_not_chosen(self):
        # With the side left, the state behind e "+" e is never left by a shift of "+".
        table = table_of('step left "+"', 'rule e = e "+" e | n')
        state = table.goto(table.action(table.goto(0, "e"), '"+"')[1], "e")
        self.assertEqual(table.action(state, '"+"'), ("reduce", 0))


class StatesTest(unittest.TestCase):
    def test_empty_alternatives(self):
        table = build_table(read_grammar("language e\nrule s = \n"))
        self.assertEqual((table.count, table.action(0, "end"), table.goto(0, "s"), table.action(1, "end")), (2, ("reduce", 0), 1, ("accept",)))
        self.assertEqual(table.clashes, ())

    def test_alike_item_states_are_one(self):
        # What stands behind "a" and behind "b" is the same, so that the states are the same.
        table = build_table(read_grammar('language a\nrule s = "a" t | "b" t\nrule t = "x"\n'))
        self.assertEqual(table.action(0, '"a"'), ("shift", 1))
        self.assertEqual(table.action(1, '"x"'), table.action(table.action(0, '"b"')[1], '"x"'))
        lists = build_table(read_grammar('language a\nrule s = "a" t "." | "b" t "."\nrule t = "x"\n'))
        self.assertEqual(lists.action(lists.action(0, '"a"')[1], '"x"'), lists.action(lists.action(0, '"b"')[1], '"x"'))
        self.assertNotEqual(lists.goto(lists.action(0, '"a"')[1], "t"), lists.goto(lists.action(0, '"b"')[1], "t"))

    def test_against_slow_tables(self):
        grammars = [read_grammar(notation) for notation in (TINY, LISTS)] + random_grammars(5, 120)
        checked = 0
        for grammar in grammars:
            table = build_table(grammar)
            if table.count > 60:
                continue
            checked += 1
            self.check(table, SlowTable(grammar))
        self.assertGreater(checked, 80)

    def check(self, table, slow):
        self.assertEqual(table.count, slow.count)
        self.assertEqual(table.clashes, tuple(slow.clashes))
        for state in range(table.count):
            actions = {kind: table.action(state, kind) for kind in slow.kinds}
            self.assertEqual(actions, {kind: slow.action(state, kind) for kind in slow.kinds})
            for rule in table.grammar.rules:
                self.assertEqual(table.goto(state, rule), slow.goto(state, rule))
            offers = {
                kind: ("shift", kind) if action[0] == "shift" else action
                for kind, action in actions.items() if action != ("error",)
            }
            self.assertEqual(list(table.offers(state).items()), list(offers.items()))
            self.assertEqual(table.skipped(state), table.lexicon.skipped(list(offers)))
        chance = random.Random(table.count)
        for _ in range(30):
            first, second = chance.randrange(table.count), chance.randrange(table.count)
            self.assertEqual(table.parting(first, second), slow.parting(first, second))

    def test_rules_in_any_order(self):
        kinds = [("b", ("set", "b")), ("a", ("set", "a"))]
        alternatives = [("t", ("a",), ("",), ""), ("s", ("t", "s"), ("", ""), ""), ("t", ("b", "t"), ("", ""), ""), ("s", (), (), "")]
        grammar = Grammar("g", kinds=kinds, rules=["s", "t"], alternatives=alternatives)
        self.check(build_table(grammar), SlowTable(grammar))


class PartingTest(unittest.TestCase):
    def test_equal_states(self):
        table = build_table(read_grammar(CODE))
        self.assertEqual([table.parting(state, state) for state in (0, 5, table.count - 1)], [None] * 3)

    def test_rows_and_symbols(self):
        table = build_table(read_grammar('language a\nrule s = "(" s ")" | "[" s "]" | "x"\n'))
        first, second = table.action(0, '"("')[1], table.action(0, '"["')[1]
        self.assertEqual(table.parting(first, second), (('"x"',), '")"'))
        self.assertEqual(table.parting(second, first), (('"x"',), '")"'))
        self.assertEqual(table.parting(0, first), (('"x"',), '")"'))

    def test_rules_part_states(self):
        table = build_table(read_grammar('language a\nrule s = "(" t | "[" r\nrule t = "x"\nrule r = "x"\n'))
        first, second = table.action(0, '"("')[1], table.action(0, '"["')[1]
        self.assertEqual(table.parting(first, second), ((), "t"))


class SizeTest(unittest.TestCase):
    def test_a_grammar_at_the_bounds(self):
        levels = "".join(f'rule e{level} = e{level} "{level}+" e{level + 1} | e{level} "{level}-" e{level + 1} | e{level + 1}\n' for level in range(20))
        brackets = "".join(f' | "({level}" e0 "){level}"' for level in range(7))
        stats = "".join(f' | "do{level}" e0 ";" s s "then" e0 ";" s "else" e0 ";"' for level in range(3))
        grammar = read_grammar(f'language big\nkind n = [0-9]\nrule s = e0 ";"{stats}\n' + levels + f"rule e20 = n{brackets}\n")
        self.assertGreaterEqual(len(grammar.kinds), 60)
        begin = time.process_time()
        table = build_table(grammar)
        self.assertGreater(table.count, 500)
        self.assertLess(time.process_time() - begin, 20)


if __name__ == "__main__":
    unittest.main()
