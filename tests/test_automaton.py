"""[1.7]: automata."""

import unittest

from mendedtree.signs.alphabet import PLAIN
from mendedtree.signs.automaton import build_automaton
from mendedtree.signs.pattern import read_pattern
from tests.helpers import matches, random_patterns, texts


def built(*notations):
    return build_automaton([read_pattern(notation) for notation in notations])


def matching(patterns, text):
    return [index for index, pattern in enumerate(patterns) if matches(pattern, text)]


class AutomatonTest(unittest.TestCase):
    def test_no_pattern(self):
        automaton = build_automaton([])
        self.assertEqual(automaton.count, 1)
        self.assertEqual((automaton.accepted(0), automaton.ahead(0), automaton.least_text(0)), ([], [], ""))
        self.assertEqual((automaton.step(0, "a"), automaton.run(""), automaton.run("a"), automaton.parting(0, 0)), (-1, 0, -1, None))

    def test_one_pattern(self):
        automaton = built('"ab" | "ac"')
        self.assertEqual(automaton.count, 3)
        self.assertEqual([automaton.least_text(state) for state in range(3)], ["", "a", "ab"])
        self.assertEqual([automaton.accepted(state) for state in range(3)], [[], [], [0]])
        self.assertEqual([automaton.ahead(state) for state in range(3)], [[0], [0], []])
        self.assertEqual([automaton.step(0, "a"), automaton.step(0, "b"), automaton.step(1, "b"), automaton.step(1, "c")], [1, -1, 2, 2])
        self.assertEqual([automaton.run(text) for text in ("", "a", "ab", "ac", "abc", "b")], [0, 1, 2, 2, -1, -1])

    def test_several_patterns(self):
        automaton = built('"if"', "[a-z]+")
        self.assertEqual(automaton.count, 4)
        self.assertEqual([automaton.least_text(state) for state in range(4)], ["", "a", "i", "if"])
        self.assertEqual([automaton.accepted(state) for state in range(4)], [[], [1], [1], [0, 1]])
        self.assertEqual([automaton.ahead(state) for state in range(4)], [[0, 1], [1], [0, 1], [1]])
        self.assertEqual(automaton.run("iffy"), 1)
        self.assertEqual(automaton.run("if"), 3)

    def test_equal_patterns(self):
        automaton = built('"a"*', '("a" "a")* "a"?', '"a"*')
        self.assertEqual(automaton.count, 1)
        self.assertEqual(automaton.accepted(0), [0, 1, 2])
        self.assertEqual(automaton.ahead(0), [0, 1, 2])
        self.assertEqual(automaton.run("aaaa"), 0)

    def test_the_empty_row(self):
        automaton = built('""', '"" | "a"')
        self.assertEqual(automaton.count, 2)
        self.assertEqual((automaton.accepted(0), automaton.ahead(0), automaton.accepted(1), automaton.ahead(1)), ([0, 1], [1], [1], []))
        self.assertEqual(built('""*').count, 1)
        huge = ("repeat", ("row", ()), 10 ** 6, 10 ** 9)
        self.assertEqual(build_automaton([huge]).count, 1)
        self.assertEqual(build_automaton([("row", (("set", "a"), ("repeat", huge, 3, None)))]).count, 2)

    def test_repeats(self):
        self.assertEqual(built('"a"{3}').count, 4)
        self.assertEqual(built('"a"{2,5}').count, 6)
        self.assertEqual(built('("a"{2}){2,3}').count, 7)
        self.assertEqual(built('"a"{3} "a"*').count, 4)
        self.assertEqual(build_automaton([("repeat", ("set", "a"), 3, None)]).count, 4)
        self.assertEqual(build_automaton([("repeat", ("set", "a"), 0, 150)]).count, 151)
        self.assertEqual(build_automaton([("repeat", ("set", "ab"), 40, 190)]).count, 191)
        several = built('("a"{9}){4}', '("a"{6})*')
        self.assertEqual(several.accepted(several.run("a" * 36)), [0, 1])
        self.assertEqual(several.accepted(several.run("a" * 35)), [])
        self.assertEqual(several.count, 43)

    def test_repeats_of_what_can_be_empty(self):
        for notation in ('("a"?){3}', '("a"? "b"?){2}', '("a"*){2,3} "b"', '("" | "ab"){2}', '("a"? | "b"){3}'):
            pattern = read_pattern(notation)
            automaton = build_automaton([pattern])
            for text in texts("ab", 6):
                state = automaton.run(text)
                self.assertEqual(state >= 0 and automaton.accepted(state) == [0], matches(pattern, text), (notation, text))

    def test_many_states(self):
        automaton = built('[ab]* "a" [ab]{7}')
        self.assertEqual(automaton.count, 256)
        self.assertEqual(automaton.least_text(255), "abbbbbbb")
        self.assertEqual(automaton.accepted(automaton.run("babbbbbbb")), [0])
        self.assertEqual(automaton.parting(0, 1), "aaaaaaa")

    def test_sets_of_nearly_all_characters(self):
        automaton = built("[^a]*", "[^b]+", ".")
        leasts = [automaton.least_text(state) for state in range(automaton.count)]
        self.assertEqual(leasts, ["", "\t", "\n", "a", "b", "\ta", "\tb"])
        for char in PLAIN:
            expected = [index for index, held in enumerate((char != "a", char != "b", char != "\n")) if held]
            self.assertEqual(automaton.accepted(automaton.step(0, char)), expected)

    def test_the_stray_character(self):
        automaton = built("[^]+")
        self.assertEqual((automaton.step(0, "`"), automaton.run("a`"), automaton.run("a")), (-1, -1, automaton.step(0, "a")))

    def test_parting(self):
        automaton = built('"if"', "[a-z]+")
        self.assertEqual([automaton.parting(state, state) for state in range(4)], [None] * 4)
        for first, second, text in ((0, 1, ""), (0, 3, ""), (1, 2, "f"), (1, 3, ""), (2, 3, "")):
            self.assertEqual(automaton.parting(first, second), text)
            self.assertEqual(automaton.parting(second, first), text)

    def test_parting_from_states_without_a_way(self):
        automaton = built('"ab" | "cbb"')
        first, second = automaton.run("a"), automaton.run("c")
        self.assertEqual((automaton.parting(first, second), automaton.parting(second, first)), ("b", "b"))
        self.assertEqual(automaton.parting(0, second), "ab")

    def test_changed_lists_change_nothing(self):
        patterns = [read_pattern('"a"'), read_pattern('"ab"')]
        automaton = build_automaton(patterns)
        patterns.clear()
        automaton.accepted(1).append(7)
        automaton.ahead(0).clear()
        self.assertEqual((automaton.accepted(1), automaton.ahead(0), automaton.ahead(1)), ([0], [0, 1], [1]))

    def test_against_a_slow_search(self):
        rows = random_patterns(4, 240, "ab")
        longer = list(texts("ab", 5))
        for at in range(0, len(rows), 2):
            patterns = rows[at:at + 1 + at // 2 % 2]
            automaton = build_automaton(patterns)
            found = {}
            for text in longer:
                state = automaton.run(text)
                if state < 0:
                    self.assertEqual([matching(patterns, text + more) for more in longer[:7]], [[]] * 7)
                    continue
                found.setdefault(state, []).append(text)
                self.assertEqual(automaton.accepted(state), matching(patterns, text))
            for state, row in found.items():
                # The texts come from the least one on.
                self.assertEqual(automaton.least_text(state), row[0])
                for more in longer[:15]:
                    self.assertEqual(len({tuple(matching(patterns, text + more)) for text in row[:4]}), 1)
            self.check_states(automaton)

    def check_states(self, automaton):
        leasts = [automaton.least_text(state) for state in range(automaton.count)]
        self.assertEqual(leasts, sorted(leasts, key=lambda text: (len(text), text)))
        for state, text in enumerate(leasts):
            self.assertEqual(automaton.run(text), state)
            following = [automaton.step(state, char) for char in "ab"]
            ahead = {index for other in following if other >= 0 for index in automaton.accepted(other) + automaton.ahead(other)}
            self.assertEqual(automaton.ahead(state), sorted(ahead))
            self.assertTrue(state == 0 or automaton.accepted(state) or automaton.ahead(state))
        for first in range(min(automaton.count, 6)):
            for second in range(min(automaton.count, 6)):
                if first != second:
                    self.check_parting(automaton, first, second, leasts)

    def check_parting(self, automaton, first, second, leasts):
        def accepted(state, text):
            end = automaton.run(leasts[state] + text)
            return automaton.accepted(end) if end >= 0 else []
        text = automaton.parting(first, second)
        self.assertNotEqual(accepted(first, text), accepted(second, text))
        for other in texts("ab", len(text)):
            if other == text:
                break
            self.assertEqual(accepted(first, other), accepted(second, other))


if __name__ == "__main__":
    unittest.main()
