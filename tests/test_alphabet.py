"""[1.1]: characters and texts."""

import unittest

from mendedtree.signs.alphabet import PLAIN, SIGNS, STRAY, in_order, is_text


class AlphabetTest(unittest.TestCase):
    def test_signs(self):
        expected = "\t\n" + "".join(chr(code) for code in range(32, 127) if code != 37)
        self.assertEqual(SIGNS, expected)
        self.assertEqual(len(SIGNS), 96)
        self.assertEqual(STRAY, chr(96))
        self.assertEqual(PLAIN, expected.replace(chr(96), ""))
        self.assertEqual(len(PLAIN), 95)

    def test_texts(self):
        for text in ("", "a", SIGNS, "two\nlines\t`", "a" * 3000):
            self.assertIs(is_text(text), True)
        for text in ("%", "a%b", "\r", "\x00", "\x7f", "caf\xe9", "\u20ac"):
            self.assertIs(is_text(text), False)

    def test_values_that_are_no_strings(self):
        for value in (0, 1, 1.5, None, True, False, [], ["a"], (), ("a",), {}, {"a": 1}, {"a"}, b"", b"a", str):
            self.assertIs(is_text(value), False)

    def test_in_order(self):
        self.assertEqual(in_order(""), "")
        self.assertEqual(in_order("banana"), "abn")
        self.assertEqual(in_order("zZ\n a\t`~az"), "\t\n Z`az~")
        self.assertEqual(in_order(SIGNS[::-1] + SIGNS), SIGNS)


if __name__ == "__main__":
    unittest.main()
