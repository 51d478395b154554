"""[6.6] and [6.7]: compact lists of edits, and edits in another order."""

import random
import unittest

from mendedtree.edits.carry import carry_of
from mendedtree.edits.edit import apply
from mendedtree.edits.lists import compact, swap, swap_lists
from tests.helpers import raised
from tests.test_edits import random_edits


def carried(length, edits):
    carry = carry_of(length, edits)
    return carry.old, carry.new, carry.runs


def random_case(chance, longest=10, count=5):
    text = "".join(chance.choice("ab+ ") for _ in range(chance.randint(0, longest)))
    return text, random_edits(chance, len(text), chance.randint(0, count))


class CompactTest(unittest.TestCase):
    def test_examples(self):
        self.assertEqual(compact("hello", [(1, 1, "x"), (1, 2, "")]), [])
        self.assertEqual(compact("hello", [(0, 1, "J"), (3, 5, "")]), [(3, 5, ""), (0, 1, "J")])

    def test_nothing(self):
        self.assertEqual(compact("", []), [])
        self.assertEqual(compact("hello", []), [])
        self.assertEqual(compact("hello", [(0, 0, ""), (5, 5, ""), (3, 3, "")]), [])

    def test_edits_that_touch(self):
        self.assertEqual(compact("hello", [(1, 2, "x"), (2, 3, "y")]), [(1, 3, "xy")])
        self.assertEqual(compact("hello", [(2, 3, ""), (2, 2, "y"), (2, 2, "x")]), [(2, 3, "xy")])
        self.assertEqual(compact("hello", [(1, 2, ""), (1, 2, "")]), [(1, 3, "")])
        self.assertEqual(compact("hello", [(1, 2, "x"), (3, 4, "y")]), [(3, 4, "y"), (1, 2, "x")])
        self.assertEqual(compact("hello", [(0, 0, "x"), (0, 0, "y")]), [(0, 0, "yx")])
        self.assertEqual(compact("hello", [(5, 5, "x"), (5, 5, "y")]), [(5, 5, "yx")])

    def test_what_was_put_in_is_taken_out(self):
        self.assertEqual(compact("hello", [(2, 2, "abc"), (2, 5, "")]), [])
        self.assertEqual(compact("hello", [(2, 2, "abc"), (3, 4, "")]), [(2, 2, "ac")])
        self.assertEqual(compact("hello", [(2, 3, "abc"), (1, 6, "z")]), [(1, 4, "z")])

    def test_the_same_character_does_not_survive(self):
        self.assertEqual(compact("hello", [(1, 2, "e")]), [(1, 2, "e")])
        self.assertEqual(compact("hello", [(1, 2, ""), (1, 1, "e")]), [(1, 2, "e")])
        self.assertEqual(compact("aa", [(0, 1, ""), (1, 1, "a")]), [(2, 2, "a"), (0, 1, "")])

    def test_both_ends_of_the_text(self):
        self.assertEqual(compact("ab", [(0, 2, "")]), [(0, 2, "")])
        self.assertEqual(compact("ab", [(2, 2, "x"), (0, 0, "y")]), [(2, 2, "x"), (0, 0, "y")])
        self.assertEqual(compact("", [(0, 0, "x")]), [(0, 0, "x")])

    def test_edits_that_do_not_fit(self):
        for edits, index in (([(0, 4, "")], 0), ([(0, 3, ""), (1, 1, "")], 1), ([(0, 0, ""), (-1, 0, ""), (9, 9, "")], 1)):
            self.assertEqual(raised(compact, "abc", edits), ("EditError", index))

    def test_the_one_list_that_there_is(self):
        chance = random.Random(4)
        for _ in range(400):
            text, edits = random_case(chance)
            kept = list(edits)
            found = compact(text, edits)
            self.assertEqual(edits, kept)
            self.assertEqual(apply(text, found), apply(text, edits))
            self.assertEqual(carried(len(text), found), carried(len(text), edits))
            for edit in found:
                self.assertNotEqual((edit[1] - edit[0], edit[2]), (0, ""))
            for later, earlier in zip(found, found[1:]):
                # At least one character between two edits, and it survives, because no edit replaces it.
                self.assertGreater(later[0], earlier[1])
            self.assertEqual(compact(text, found), found)

    def test_many_edits(self):
        chance = random.Random(5)
        text = "ab+ " * 500
        edits = random_edits(chance, len(text), 200)
        edits = [(start, min(end, start + 9), new) for start, end, new in edits if start < 1000][:200]
        found = compact(text, edits)
        self.assertEqual(apply(text, found), apply(text, edits))
        self.assertEqual(carried(len(text), found), carried(len(text), edits))


class SwapTest(unittest.TestCase):
    def test_example(self):
        self.assertEqual(swap((0, 1, "ab"), (3, 3, "c")), ((2, 2, "c"), (0, 1, "ab")))

    def test_the_second_edit_lies_before(self):
        self.assertEqual(swap((5, 7, "x"), (1, 4, "abcde")), ((1, 4, "abcde"), (7, 9, "x")))
        self.assertEqual(swap((5, 7, "x"), (1, 5, "")), ((1, 5, ""), (1, 3, "x")))
        self.assertEqual(swap((5, 5, ""), (5, 5, "ab")), ((5, 5, "ab"), (7, 7, "")))

    def test_the_second_edit_lies_behind(self):
        self.assertEqual(swap((5, 7, "x"), (6, 8, "y")), ((7, 9, "y"), (5, 7, "x")))
        self.assertEqual(swap((5, 7, "xyz"), (8, 8, "y")), ((7, 7, "y"), (5, 7, "xyz")))
        self.assertEqual(swap((0, 3, ""), (0, 2, "y")), ((3, 5, "y"), (0, 3, "")))

    def test_before_is_asked_first(self):
        # Both cases are possible: the first edit inserts nothing, and the second one replaces nothing at its place.
        self.assertEqual(swap((2, 4, ""), (2, 2, "ab")), ((2, 2, "ab"), (4, 6, "")))
        self.assertEqual(swap((2, 2, ""), (2, 2, "")), ((2, 2, ""), (2, 2, "")))

    def test_entangled(self):
        for first, second in (
            ((2, 2, "ab"), (3, 3, "x")), ((2, 2, "ab"), (1, 3, "")), ((2, 2, "ab"), (2, 3, "")), ((2, 3, "ab"), (2, 4, "")),
            ((2, 4, ""), (1, 3, "x")), ((2, 2, "ab"), (3, 9, "")), ((2, 2, "ab"), (0, 9, "")),
        ):
            self.assertEqual(raised(swap, first, second), ("Entangled", first, second))

    def test_the_same_result_and_carry(self):
        chance = random.Random(6)
        counts = [0, 0]
        for _ in range(600):
            text, _ = random_case(chance)
            edits = random_edits(chance, len(text), 2)
            fault = raised(swap, *edits)
            counts[fault is not None] += 1
            if fault is None:
                second, first = swap(*edits)
                self.assertEqual(apply(text, [second, first]), apply(text, edits))
                self.assertEqual(carried(len(text), [second, first]), carried(len(text), edits))
            else:
                self.assertEqual(fault, ("Entangled", *edits))
        self.assertGreater(min(counts), 50)


class SwapListsTest(unittest.TestCase):
    def test_empty_lists(self):
        self.assertEqual(swap_lists([], []), ([], []))
        self.assertEqual(swap_lists([(0, 1, "a")], []), ([], [(0, 1, "a")]))
        self.assertEqual(swap_lists([], [(0, 1, "a"), (0, 0, "")]), ([(0, 1, "a"), (0, 0, "")], []))

    def test_each_edit_passes_all_others(self):
        first = [(0, 1, "ab"), (5, 6, "")]
        second = [(3, 3, "c"), (6, 6, "dd")]
        ahead, behind = swap_lists(first, second)
        self.assertEqual((ahead, behind), ([(2, 2, "c"), (5, 5, "dd")], [(0, 1, "ab"), (8, 9, "")]))
        self.assertEqual(apply("0123456789", ahead + behind), apply("0123456789", first + second))

    def test_entangled_in_the_forms_by_then(self):
        # The first edit of the second list passes; the second one meets the last edit of the first list moved by it.
        first = [(9, 9, "x"), (4, 5, "yy")]
        self.assertEqual(raised(swap_lists, first, [(0, 0, "..."), (8, 8, "z")]), ("Entangled", (7, 8, "yy"), (8, 8, "z")))
        # The edit passes the last one, and meets the first one in the form that it has then.
        first = [(4, 5, "yy"), (0, 0, "...")]
        self.assertEqual(raised(swap_lists, first, [(8, 8, "z")]), ("Entangled", (4, 5, "yy"), (5, 5, "z")))

    def test_the_same_result_and_carry(self):
        chance = random.Random(7)
        counts = [0, 0]
        for _ in range(500):
            text, first = random_case(chance, 30, 3)
            second = random_edits(chance, len(apply(text, first)), chance.randint(0, 3))
            kept = list(first), list(second)
            fault = raised(swap_lists, first, second)
            counts[fault is not None] += 1
            if fault is None:
                ahead, behind = swap_lists(first, second)
                self.assertEqual((len(ahead), len(behind)), (len(second), len(first)))
                self.assertEqual(apply(text, ahead + behind), apply(text, first + second))
                self.assertEqual(carried(len(text), ahead + behind), carried(len(text), first + second))
            self.assertEqual((first, second), kept)
        self.assertGreater(min(counts), 80)

    def test_results_are_new(self):
        first, second = [(0, 0, "a")], [(5, 5, "b")]
        ahead, behind = swap_lists(first, second)
        ahead.clear()
        behind.clear()
        self.assertEqual((first, second), ([(0, 0, "a")], [(5, 5, "b")]))
        self.assertEqual(swap_lists([], second)[0], second)
        swap_lists([], second)[0].clear()
        swap_lists(first, [])[1].clear()
        self.assertEqual((first, second), ([(0, 0, "a")], [(5, 5, "b")]))


if __name__ == "__main__":
    unittest.main()
