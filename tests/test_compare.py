"""[1.8]: comparing patterns."""

import unittest

from mendedtree.signs.compare import common, covers, difference
from mendedtree.signs.pattern import read_pattern
from tests.helpers import matches, random_patterns, texts


class CompareTest(unittest.TestCase):
    def check(self, first, second, differs, both, first_covers, second_covers):
        first, second = read_pattern(first), read_pattern(second)
        self.assertEqual((difference(first, second), difference(second, first)), (differs, differs))
        self.assertEqual((common(first, second), common(second, first)), (both, both))
        self.assertEqual((covers(first, second), covers(second, first)), (first_covers, second_covers))

    def test_example(self):
        self.check('"a"* "b"', '"a"{0,2} "b"', "aaab", "b", True, False)

    def test_equal_patterns(self):
        self.check('"a"*', '("a" "a")* "a"?', None, "", True, True)
        self.check('("a" | "b")*', '("a"* "b"*)*', None, "", True, True)
        self.check("[a-z]+", "[a-z] [a-z]*", None, "a", True, True)
        self.check('""', '""*', None, "", True, True)

    def test_nearly_equal_patterns(self):
        self.check("[a-z]+", "[a-y]+", "z", "a", True, False)
        self.check('"a"{0,9}', '"a"{1,9}', "", "a", True, False)
        self.check('("a"{9}){9} | "b"', '("a"{9}){9} "a"? | "b"', "a" * 82, "b", False, True)
        self.check("[^]", ".", "\n", "\t", True, False)

    def test_different_patterns(self):
        self.check('"if"', "[a-z]+", "a", "if", False, True)
        self.check('"a"', '"b"', "a", None, False, False)
        self.check('("a"{7})+', '("a"{5})+', "aaaaa", "a" * 35, False, False)
        self.check('"ab" | "c"', '"abc" | "ab"', "c", "ab", False, False)

    def test_against_a_slow_search(self):
        rows = random_patterns(5, 300, "ab")
        found = list(texts("ab", 6))
        for first, second in zip(rows[::2], rows[1::2]):
            pairs = [(matches(first, text), matches(second, text)) for text in found]
            differs = [text for text, (one, two) in zip(found, pairs) if one != two]
            both = [text for text, (one, two) in zip(found, pairs) if one and two]
            answer, shared = difference(first, second), common(first, second)
            if differs or (answer is not None and len(answer) <= 6):
                self.assertEqual(answer, differs[0])
            elif answer is not None:
                self.assertNotEqual(matches(first, answer), matches(second, answer))
            if both or (shared is not None and len(shared) <= 6):
                self.assertEqual(shared, both[0])
            if any(two and not one for one, two in pairs):
                self.assertIs(covers(first, second), False)
            if answer is None:
                self.assertIs(covers(first, second) and covers(second, first), True)
            if covers(first, second) and covers(second, first):
                self.assertIsNone(answer)


if __name__ == "__main__":
    unittest.main()
