"""[1.9] to [1.12]: scans and decisions."""

import random
import unittest

from mendedtree.signs.alphabet import SIGNS, is_text
from mendedtree.signs.lexicon import Lexicon
from mendedtree.signs.matching import first_chars, matches_empty
from mendedtree.signs.pattern import read_pattern
from tests.helpers import matches, raised, random_patterns, texts


def lexicon_of(skip, **kinds):
    return Lexicon([(name, read_pattern(notation)) for name, notation in kinds.items()], skip)


WORDS = [("if", read_pattern('"if"')), ("word", read_pattern("[a-z]+"))]


def slow_scan(kinds, skip, text, place, allowed):
    """The lead, the kind and the width, as [1.10] says them."""
    known = [(name, pattern) for name, pattern in kinds if name in allowed]
    begun = "".join(first_chars(pattern) for _, pattern in known)
    start = place
    while start < len(text) and text[start] in skip and text[start] not in begun:
        start += 1
    if start == len(text):
        return start - place, "end" if "end" in allowed else None, 0
    for end in range(len(text), start, -1):
        for name, pattern in known:
            if matches(pattern, text[start:end]):
                return start - place, name, end - start
    return start - place, None, 0


class SkippedTest(unittest.TestCase):
    def test_skip_characters_with_which_kinds_begin(self):
        lexicon = lexicon_of("\n -", minus='"-"', word="[a-z]+", line='"\\n" "x"', dash='"x-"')
        self.assertEqual(lexicon.skipped(["word"]), "\n -")
        self.assertEqual(lexicon.skipped(["minus"]), "\n ")
        self.assertEqual(lexicon.skipped(["word", "line"]), " -")
        self.assertEqual(lexicon.skipped(["line", "minus", "end"]), " ")
        self.assertEqual(lexicon.skipped(["dash"]), "\n -")
        self.assertEqual(lexicon.skipped(["end"]), "\n -")
        self.assertEqual(lexicon.skipped([]), "\n -")

    def test_attributes(self):
        lexicon = Lexicon(WORDS, " ")
        self.assertEqual((lexicon.names, lexicon.skip), (("if", "word"), " "))
        lexicon = Lexicon(tuple(WORDS), "")
        self.assertEqual((lexicon.names, lexicon.skip, lexicon.skipped(["if"])), (("if", "word"), "", ""))


class ScanTest(unittest.TestCase):
    def test_example(self):
        lexicon = Lexicon(WORDS, " ")
        found = [lexicon.scan("  if x", 0, ["if", "word"]), lexicon.scan("  if x", 0, ["word"])]
        self.assertEqual(found, [(2, "if", 2, 5), (2, "word", 2, 5)])

    def test_the_order_of_the_allowed_names_plays_no_part(self):
        lexicon = Lexicon(WORDS, " ")
        self.assertEqual(lexicon.scan("if", 0, ["word", "if"]), (0, "if", 2, 3))
        self.assertEqual(Lexicon(WORDS[::-1], " ").scan("if", 0, ["if", "word"]), (0, "word", 2, 3))

    def test_the_longest_stretch(self):
        lexicon = lexicon_of("", a='"a"', abc='"abc"', b='"b"')
        self.assertEqual(lexicon.scan("abd", 0, ["a", "abc", "b"]), (0, "a", 1, 3))
        self.assertEqual(lexicon.scan("abc", 0, ["a", "abc", "b"]), (0, "abc", 3, 3))
        self.assertEqual(lexicon.scan("ab", 0, ["a", "abc"]), (0, "a", 1, 3))
        self.assertEqual(lexicon.scan("ab", 0, ["a"]), (0, "a", 1, 1))
        self.assertEqual(lexicon.scan("ab", 1, ["a"]), (0, None, 0, 1))

    def test_the_end(self):
        lexicon = Lexicon(WORDS, " ")
        self.assertEqual(lexicon.scan("", 0, ["end"]), (0, "end", 0, 1))
        self.assertEqual(lexicon.scan("", 0, ["word"]), (0, None, 0, 1))
        self.assertEqual(lexicon.scan("a ", 1, ["word", "end"]), (1, "end", 0, 2))
        self.assertEqual(lexicon.scan("a ", 1, ["word"]), (1, None, 0, 2))
        self.assertEqual(lexicon.scan("a ", 2, ["end"]), (0, "end", 0, 1))
        self.assertEqual(lexicon.scan(" a", 0, ["end"]), (1, None, 0, 2))
        self.assertEqual(lexicon.scan("`", 0, ["end", "word"]), (0, None, 0, 1))

    def test_skip_characters_with_which_allowed_kinds_begin(self):
        lexicon = lexicon_of(" ", gap='" "+', word="[a-z]+")
        self.assertEqual(lexicon.scan("  a", 0, ["word"]), (2, "word", 1, 4))
        self.assertEqual(lexicon.scan("  a", 0, ["gap", "word"]), (0, "gap", 2, 3))
        self.assertEqual(lexicon.scan("  ", 0, ["gap"]), (0, "gap", 2, 3))

    def test_long_texts(self):
        lexicon = Lexicon(WORDS + [("call", read_pattern('[a-z]+ "("'))], " ")
        text = "a" * 2000
        self.assertEqual(lexicon.scan(text, 0, ["word", "call"]), (0, "word", 2000, 2001))
        self.assertEqual(lexicon.scan(" " * 2000, 0, ["word", "end"]), (2000, "end", 0, 2001))
        self.assertEqual(lexicon.scan(text + "(", 1000, ["call"]), (0, "call", 1001, 1001))
        witness = lexicon.other_scan(text, 0, ["word", "call"], 2000)
        self.assertTrue(witness.startswith(text))
        self.assertEqual(lexicon.decide(text, 0, {"word": 1, "call": 1}), (1, 1))
        self.assertEqual(lexicon.decide(text, 0, {"word": 1, "call": 2}), (1, 2001))

    def test_many_kinds(self):
        kinds = [(f"k{index}", read_pattern(f'"{chr(97 + index % 26)}"{{{index // 26 + 1}}} [0-9]{{9}}')) for index in range(60)]
        lexicon = Lexicon(kinds, " ")
        self.assertEqual(lexicon.scan("bb123456789", 0, list(lexicon.names)), (0, "k27", 11, 11))

    def test_other_scan_with_only_the_end_allowed(self):
        lexicon = Lexicon(WORDS, "")
        self.assertNotEqual(lexicon.other_scan("", 0, ["end"], 0), "")
        self.assertEqual(lexicon.scan(lexicon.other_scan("x", 0, ["end"], 0), 0, ["end"]), (0, "end", 0, 1))
        self.assertEqual(raised(lexicon.other_scan, "x", 0, ["end"], 1), ("NoWitness", 1))

    def test_counts_out_of_range(self):
        lexicon = Lexicon(WORDS, " ")
        for count in (-1, -5, 5, 6, 100):
            self.assertEqual(raised(lexicon.other_scan, "x  if x", 1, ["if"][:0] + ["word", "if"], count), ("NoWitness", 1 + count))

    def test_against_a_slow_search(self):
        chance = random.Random(6)
        patterns = [pattern for pattern in random_patterns(7, 200, "ab", 2) if not matches_empty(pattern)]
        for _ in range(120):
            kinds = [(name, chance.choice(patterns)) for name in "xyz"]
            skip = chance.choice(["", " ", " b", "a"])
            lexicon = Lexicon(kinds, skip)
            allowed = chance.sample(["x", "y", "z", "end"], chance.randint(1, 4))
            for _ in range(4):
                text = "".join(chance.choice("aab b`") for _ in range(chance.randint(0, 5)))
                self.check_scan(lexicon, kinds, skip, text, chance.randint(0, len(text)), allowed)

    def check_scan(self, lexicon, kinds, skip, text, place, allowed):
        lead, kind, width, looked = lexicon.scan(text, place, allowed)
        found = slow_scan(kinds, skip, text, place, allowed)
        self.assertEqual((lead, kind, width), found)
        self.assertLessEqual(place + looked, len(text) + 1)
        if place + looked <= len(text):
            for more in texts("ab `", 3):
                other = text[:place + looked] + more
                self.assertEqual(slow_scan(kinds, skip, other, place, allowed), found)
        for count in range(looked):
            other = lexicon.other_scan(text, place, allowed, count)
            self.assertTrue(is_text(other) and other.startswith(text[:place + count]))
            self.assertNotEqual(slow_scan(kinds, skip, other, place, allowed), found)
        for count in (-2, -1, looked, looked + 1):
            self.assertEqual(raised(lexicon.other_scan, text, place, allowed, count), ("NoWitness", place + count))


class DecideTest(unittest.TestCase):
    def test_example(self):
        lexicon = Lexicon(WORDS, " ")
        answers = {"word": 1, "if": 2}
        self.assertEqual([lexicon.decide("ab", 0, answers), lexicon.decide("if", 0, answers)], [(1, 1), (2, 3)])

    def test_equal_answers(self):
        lexicon = Lexicon(WORDS, " ")
        for text in ("ab", "if", "iffy", "i"):
            self.assertEqual(lexicon.decide(text, 0, {"word": 1, "if": 1}), (1, 1))
        self.assertEqual(lexicon.decide("  if", 0, {"if": "x", "word": "x"}), ("x", 3))

    def test_different_answers(self):
        lexicon = Lexicon(WORDS, " ")
        answers = {"word": ("reduce", 1), "if": ("shift", "if")}
        self.assertEqual(lexicon.decide("i", 0, answers), (("reduce", 1), 2))
        self.assertEqual(lexicon.decide("if", 0, answers), (("shift", "if"), 3))
        self.assertEqual(lexicon.decide("iff", 0, answers), (("reduce", 1), 3))
        self.assertEqual(lexicon.decide("ia", 0, answers), (("reduce", 1), 2))
        self.assertEqual(lexicon.decide("if ", 0, answers), (("shift", "if"), 3))

    def test_nothing_is_found(self):
        lexicon = Lexicon(WORDS, " ")
        self.assertEqual(lexicon.decide("0", 0, {"word": 1}), (None, 1))
        self.assertEqual(lexicon.decide("", 0, {"word": 1}), (None, 1))
        self.assertEqual(lexicon.decide("", 0, {"word": 1, "end": 2}), (2, 1))
        self.assertEqual(lexicon.decide("x", 0, {"end": 2}), (None, 1))
        self.assertEqual(lexicon.decide(" x", 0, {"end": 2}), (None, 2))
        self.assertEqual(lexicon.decide("  ", 0, {"end": 2}), (2, 3))
        self.assertEqual(lexicon.decide("ix", 0, {"if": 2}), (None, 2))
        self.assertEqual(lexicon.decide("if", 0, {"if": 2}), (2, 2))

    def test_no_answers(self):
        lexicon = Lexicon(WORDS, " ")
        self.assertEqual(lexicon.decide("if", 0, {}), (None, 0))
        for count in (-1, 0, 1):
            self.assertEqual(raised(lexicon.other, "if", 1, {}, count), ("NoWitness", 1 + count))

    def test_a_kind_that_is_never_found(self):
        lexicon = lexicon_of("", word="[a-z]+", late='"if"')
        self.assertEqual(lexicon.decide("if", 0, {"word": 1, "late": 2}), (1, 1))
        self.assertEqual(lexicon.decide("if", 0, {"late": 2}), (2, 2))

    def test_changed_arguments_change_nothing(self):
        kinds = list(WORDS)
        lexicon = Lexicon(kinds, " ")
        kinds.clear()
        answers = {"word": 1, "if": 2}
        self.assertEqual(lexicon.decide("if", 0, answers), (2, 3))
        answers["if"] = 1
        self.assertEqual(lexicon.decide("if", 0, answers), (1, 1))
        answers["if"] = 3
        self.assertEqual(lexicon.decide("if", 0, answers), (3, 3))
        allowed = ["if"]
        self.assertEqual(lexicon.scan("if", 0, allowed), (0, "if", 2, 2))
        allowed.append("word")
        self.assertEqual(lexicon.scan("if", 0, allowed), (0, "if", 2, 3))

    def test_against_a_slow_search(self):
        chance = random.Random(8)
        patterns = [pattern for pattern in random_patterns(9, 200, "ab", 2) if not matches_empty(pattern)]
        for _ in range(150):
            kinds = [(name, chance.choice(patterns)) for name in "xyz"]
            skip = chance.choice(["", " ", " b", "a"])
            lexicon = Lexicon(kinds, skip)
            allowed = chance.sample(["x", "y", "z", "end"], chance.randint(1, 4))
            answers = {name: chance.choice([1, 2, "one", ("one", 1), ("one", 2)][:chance.choice([1, 2, 5])]) for name in allowed}
            for _ in range(4):
                text = "".join(chance.choice("aab b`") for _ in range(chance.randint(0, 5)))
                self.check_decision(lexicon, kinds, skip, text, chance.randint(0, len(text)), answers)

    def check_decision(self, lexicon, kinds, skip, text, place, answers):
        def answer_of(other):
            return answers.get(slow_scan(kinds, skip, other, place, list(answers))[1])
        answer, looked = lexicon.decide(text, place, answers)
        self.assertEqual(answer, answer_of(text))
        self.assertLessEqual(looked, lexicon.scan(text, place, list(answers))[3])
        if place + looked <= len(text):
            for more in texts("ab `", 3):
                self.assertEqual(answer_of(text[:place + looked] + more), answer)
        for count in range(looked):
            other = lexicon.other(text, place, answers, count)
            self.assertTrue(is_text(other) and other.startswith(text[:place + count]))
            self.assertNotEqual(answer_of(other), answer)
        for count in (-2, -1, looked, looked + 1):
            self.assertEqual(raised(lexicon.other, text, place, answers, count), ("NoWitness", place + count))

    def test_signs(self):
        lexicon = lexicon_of("", any="[^]")
        for char in SIGNS:
            expected = (None, 1) if char == "`" else (5, 1)
            self.assertEqual(lexicon.decide(char, 0, {"any": 5}), expected)


if __name__ == "__main__":
    unittest.main()
