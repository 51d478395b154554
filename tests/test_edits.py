"""[6.1] and [6.2]: edits."""

import random
import unittest

from mendedtree.edits.edit import apply, fits, inverse
from tests.helpers import raised


def random_edits(chance, length, count):
    edits = []
    for _ in range(count):
        start = chance.randint(0, length)
        end = chance.choice([start, start, min(length, start + chance.randint(0, 3)), chance.randint(start, length)])
        new = "".join(chance.choice("ab+ ") for _ in range(chance.choice([0, 0, 1, 2, 4])))
        edits.append((start, end, new))
        length += len(new) - (end - start)
    return edits


class FitsTest(unittest.TestCase):
    def test_one_edit(self):
        for start, end, good in ((0, 0, True), (0, 5, True), (5, 5, True), (2, 3, True), (-1, 0, False), (3, 2, False), (0, 6, False), (6, 6, False)):
            self.assertIs(fits(5, [(start, end, "x")]), good)
            self.assertIs(fits(5, [(start, end, "")]), good)
        self.assertIs(fits(0, []), True)
        self.assertIs(fits(0, [(0, 0, "")]), True)

    def test_each_further_edit_applies_to_the_result(self):
        self.assertIs(fits(2, [(2, 2, "abc"), (5, 5, "")]), True)
        self.assertIs(fits(2, [(2, 2, "abc"), (5, 6, "")]), False)
        self.assertIs(fits(2, [(0, 2, ""), (0, 1, "")]), False)
        self.assertIs(fits(2, [(0, 2, ""), (0, 0, "")]), True)


class ApplyTest(unittest.TestCase):
    def test_places(self):
        self.assertEqual(apply("hello", []), "hello")
        self.assertEqual(apply("hello", [(1, 3, "xyz")]), "hxyzlo")
        self.assertEqual(apply("hello", [(0, 0, "a"), (6, 6, "b"), (0, 7, "")]), "")
        self.assertEqual(apply("", [(0, 0, "ab"), (1, 1, "c")]), "acb")
        self.assertEqual(apply("hello", [(0, 5, "")]), "")

    def test_edits_that_do_not_fit(self):
        for function in (apply, inverse):
            for edits, index in (
                ([(0, 6, "")], 0), ([(-1, 0, "")], 0), ([(2, 1, "")], 0), ([(0, 1, ""), (0, 5, "")], 1), ([(0, 0, "a"), (6, 6, ""), (7, 7, "")], 2),
                ([(0, 0, "")] * 4 + [(9, 9, ""), (9, 9, "")], 4),
            ):
                self.assertEqual(raised(function, "hello", edits), ("EditError", index))


class InverseTest(unittest.TestCase):
    def test_from_the_last_edit_to_the_first(self):
        self.assertEqual(inverse("hello", []), [])
        self.assertEqual(inverse("hello", [(1, 3, "xyz")]), [(1, 4, "el")])
        self.assertEqual(inverse("hello", [(0, 2, ""), (3, 3, "x"), (1, 2, "yy")]), [(1, 3, "l"), (3, 4, ""), (0, 0, "he")])

    def test_random_edits(self):
        chance = random.Random(1)
        for _ in range(200):
            text = "".join(chance.choice("abc") for _ in range(chance.randint(0, 9)))
            edits = random_edits(chance, len(text), chance.randint(0, 6))
            kept = list(edits)
            self.assertTrue(fits(len(text), edits))
            self.assertEqual(apply(apply(text, edits), inverse(text, edits)), text)
            self.assertEqual(inverse(apply(text, edits), inverse(text, edits)), edits)
            self.assertEqual(edits, kept)


if __name__ == "__main__":
    unittest.main()
