"""[6.8] and [6.9]: ropes."""

import random
import unittest

from mendedtree.edits.edit import apply
from mendedtree.edits.rope import Rope, fresh_pieces
from tests.helpers import raised
from tests.test_edits import random_edits


def pieces(rope):
    """The pieces of a rope from the left to the right."""
    if rope.left is None:
        return [rope] if rope.size else []
    return pieces(rope.left) + pieces(rope.right)


def count_fresh(old, new):
    return len({id(piece) for piece in pieces(new)} - {id(piece) for piece in pieces(old)})


def bound(edits):
    return sum(2 + (len(new) + 15) // 16 for _, _, new in edits)


class RopeTest(unittest.TestCase):
    def check(self, rope, text):
        """Checks the form of a rope and of all ropes inside it, and its text."""
        self.assertIsInstance(rope, Rope)
        if not text:
            self.assertEqual((rope.size, rope.height, rope.left, rope.right, rope.piece), (0, 0, None, None, ""))
        elif rope.left is None:
            self.assertTrue(1 <= len(text) <= 16)
            self.assertEqual((rope.size, rope.height, rope.right, rope.piece), (len(text), 1, None, text))
        else:
            self.assertEqual((rope.size, rope.piece), (len(text), ""))
            self.assertTrue(0 < rope.left.size < rope.size)
            self.assertEqual(rope.height, 1 + max(rope.left.height, rope.right.height))
            self.assertLessEqual(abs(rope.left.height - rope.right.height), 1)
            self.check(rope.left, text[:rope.left.size])
            self.check(rope.right, text[rope.left.size:])

    def check_whole(self, rope, text):
        self.check(rope, text)
        self.assertEqual(rope.whole(), text)

    def test_of(self):
        for length in list(range(0, 70)) + [255, 256, 257, 1000, 2000]:
            text = ("abcdefghijklmnopqrstuvwxyz" * 80)[:length]
            rope = Rope.of(text)
            self.check_whole(rope, text)
            self.assertLessEqual(len(pieces(rope)), (length + 15) // 16)
            self.assertEqual("".join(rope.char(index) for index in range(length)), text)

    def test_cut(self):
        text = "".join(chr(40 + k % 80) for k in range(75))
        rope = Rope.of(text)
        for start in range(76):
            for end in range(start, 76):
                part = rope.cut(start, end)
                self.check_whole(part, text[start:end])
                self.assertLessEqual(fresh_pieces(rope, part), 2)
                self.assertEqual(fresh_pieces(rope, part), count_fresh(rope, part))
        self.check_whole(rope, text)

    def test_a_cut_that_is_known(self):
        rope = Rope.of("x" * 64)
        self.assertEqual(fresh_pieces(rope, rope.cut(16, 48)), 0)
        self.assertEqual(fresh_pieces(rope, rope.cut(0, 64)), 0)
        self.assertEqual(fresh_pieces(rope, rope.cut(17, 48)), 1)
        self.assertEqual(fresh_pieces(rope, rope.cut(3, 9)), 1)
        self.assertEqual(fresh_pieces(rope, rope.cut(3, 3)), 0)

    def test_joined(self):
        lengths = [0, 1, 16, 17, 33, 100, 400, 2000]
        for first in lengths:
            for second in lengths:
                one, other = Rope.of("a" * first), Rope.of("b" * second)
                rope = one.joined(other)
                self.check_whole(rope, "a" * first + "b" * second)
                self.assertEqual(fresh_pieces(rope, one), 0)
                self.assertEqual(fresh_pieces(one, rope), len(pieces(other)))
                self.check_whole(one, "a" * first)
                self.check_whole(other, "b" * second)

    def test_joined_with_itself(self):
        rope = Rope.of("abcdefghijklmnopqrstuvwxyz")
        text = rope.whole()
        for _ in range(6):
            both = rope.joined(rope)
            self.assertEqual((fresh_pieces(rope, both), fresh_pieces(both, rope)), (0, 0))
            rope, text = both, text + text
            self.check_whole(rope, text)
        self.assertEqual(fresh_pieces(Rope.of(""), rope), 2)

    def test_a_rope_of_one_piece_many_times(self):
        rope = Rope.of("ab")
        for _ in range(300):
            rope = rope.joined(rope)
        self.assertEqual(rope.size, 2 ** 301)
        self.assertEqual(fresh_pieces(Rope.of("ab"), rope), 1)
        self.assertEqual(rope.char(2 ** 300 + 1), "b")
        self.check_whole(rope.cut(2 ** 300 - 3, 2 ** 300 + 4), "babab" + "ab")

    def test_random_ropes(self):
        chance = random.Random(8)
        ropes = [(Rope.of(""), "")]
        for _ in range(600):
            rope, text = chance.choice(ropes)
            other, more = chance.choice(ropes)
            word = chance.choice(["of", "cut", "joined", "edited", "edited"])
            if word == "of":
                text = "".join(chance.choice("abc") for _ in range(chance.randint(0, 90)))
                rope = Rope.of(text)
            elif word == "cut":
                start = chance.randint(0, len(text))
                end = chance.randint(start, len(text))
                rope, text = rope.cut(start, end), text[start:end]
            elif word == "joined":
                rope, text = rope.joined(other), text + more
            else:
                edits = random_edits(chance, len(text), chance.randint(0, 4))
                edited = rope.edited(edits)
                self.assertEqual(fresh_pieces(rope, edited), count_fresh(rope, edited))
                self.assertLessEqual(count_fresh(rope, edited), bound(edits))
                rope, text = edited, apply(text, edits)
            self.check_whole(rope, text)
            if len(text) < 700:
                ropes.append((rope, text))
        for rope, text in ropes:
            self.check_whole(rope, text)


class EditedTest(unittest.TestCase):
    def test_edits_that_do_not_fit(self):
        rope = Rope.of("abc")
        for edits, index in (([(0, 4, "")], 0), ([(0, 3, ""), (1, 1, "")], 1), ([(0, 0, ""), (-1, 0, "")], 1), ([(2, 1, "")], 0)):
            self.assertEqual(raised(rope.edited, edits), ("EditError", index))
        self.assertEqual(rope.whole(), "abc")

    def test_the_number_of_fresh_pieces(self):
        text = "x" * 2000
        rope = Rope.of(text)
        for start, end, new in ((0, 0, ""), (7, 7, "a"), (7, 9, ""), (100, 1900, "b" * 16), (5, 5, "c" * 17), (0, 2000, "d"), (2000, 2000, "e")):
            edited = rope.edited([(start, end, new)])
            self.assertEqual(edited.whole(), apply(text, [(start, end, new)]))
            self.assertLessEqual(fresh_pieces(rope, edited), 2 + (len(new) + 15) // 16)

    def test_many_edits(self):
        chance = random.Random(9)
        text = "".join(chance.choice("abc") for _ in range(2000))
        rope = Rope.of(text)
        edits = []
        length = len(text)
        for _ in range(200):
            start = chance.randint(0, length)
            edits.append((start, min(length, start + chance.randint(0, 3)), chance.choice(["", "x", "yy" * 10])))
            length += len(edits[-1][2]) - (edits[-1][1] - start)
        edited = rope.edited(edits)
        self.assertEqual(edited.whole(), apply(text, edits))
        self.assertEqual(rope.whole(), text)
        self.assertLessEqual(edited.height, 16)
        self.assertLessEqual(fresh_pieces(rope, edited), bound(edits))

    def test_the_list_is_not_changed(self):
        edits = [(0, 1, "x"), (1, 1, "y")]
        Rope.of("abc").edited(edits)
        self.assertEqual(edits, [(0, 1, "x"), (1, 1, "y")])


class FreshPiecesTest(unittest.TestCase):
    def test_objects_are_counted(self):
        one, other = Rope.of("a" * 40), Rope.of("a" * 40)
        self.assertEqual(fresh_pieces(one, one), 0)
        self.assertEqual(fresh_pieces(one, other), 3)
        self.assertEqual(fresh_pieces(Rope.of(""), one), 3)
        self.assertEqual(fresh_pieces(one, Rope.of("")), 0)
        self.assertEqual(fresh_pieces(Rope.of("a"), Rope.of("a")), 1)
        self.assertEqual(fresh_pieces(one.left, one), len(pieces(one)) - len(pieces(one.left)))


if __name__ == "__main__":
    unittest.main()
