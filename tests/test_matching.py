"""[1.6]: what the texts that a pattern matches have in common."""

import unittest

from mendedtree.signs.alphabet import PLAIN
from mendedtree.signs.matching import first_chars, least_match, matches_empty
from mendedtree.signs.pattern import read_pattern
from tests.helpers import matches, random_patterns, texts

EMPTY = ("row", ())
A = ("set", "a")


class MatchingTest(unittest.TestCase):
    def check(self, notation, empty, first, least):
        pattern = read_pattern(notation)
        self.assertIs(matches_empty(pattern), empty, notation)
        self.assertEqual(first_chars(pattern), first, notation)
        self.assertEqual(least_match(pattern), least, notation)

    def test_sets_rows_and_choices(self):
        self.check('"a"', False, "a", "a")
        self.check("[b-da]", False, "abcd", "a")
        self.check('""', True, "", "")
        self.check('"ba"', False, "b", "ba")
        self.check('"b"? [ca] "x"', False, "abc", "ax")
        self.check('"b"? "a"?', True, "ab", "")
        self.check('"ab" | "c"', False, "ac", "c")
        self.check('"b" | "a"', False, "ab", "a")
        self.check('"b" | ""', True, "b", "")
        self.check('("ba" | "ab") ("d" | "cc")', False, "ab", "abd")
        self.check("[^]", False, PLAIN, "\t")

    def test_repeats(self):
        self.check('"a"?', True, "a", "")
        self.check('"a"*', True, "a", "")
        self.check('"a"+', False, "a", "a")
        self.check('[ab]{3}', False, "ab", "aaa")
        self.check('("b" | "aa"){2,5}', False, "ab", "bb")
        self.check('("b" | ""){2,5}', True, "b", "")
        self.check('("b"*)+ "a"', False, "ab", "a")
        self.check('""* "a"', False, "a", "a")
        self.check('(("a"{9}){9} | "b"{9})', False, "ab", "b" * 9)

    def test_many_repetitions(self):
        self.assertEqual(least_match(("repeat", A, 150, None)), "a" * 150)
        self.assertEqual(first_chars(("repeat", ("repeat", A, 10, 10), 20, 20)), "a")
        huge = ("repeat", ("repeat", EMPTY, 10 ** 6, None), 10 ** 6, 10 ** 9)
        self.assertEqual((matches_empty(huge), first_chars(huge), least_match(huge)), (True, "", ""))

    def test_against_a_slow_search(self):
        for pattern in random_patterns(2, 250, "abc"):
            found = [text for text in texts("abc", 4) if matches(pattern, text)]
            self.assertEqual(matches_empty(pattern), matches(pattern, ""))
            least = least_match(pattern)
            self.assertTrue(matches(pattern, least))
            if found:
                self.assertEqual(least, found[0])
            begun = {text[0] for text in found if text}
            self.assertTrue(begun <= set(first_chars(pattern)))
            if len(least) <= 2:
                longer = {text[0] for text in texts("abc", 6) if text and matches(pattern, text)}
                self.assertEqual("".join(sorted(longer | begun)), first_chars(pattern), pattern)


if __name__ == "__main__":
    unittest.main()
