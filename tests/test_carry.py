"""[6.3] to [6.5]: what survives edits."""

import random
import unittest

from mendedtree.edits.carry import Carry, carry_of
from mendedtree.edits.edit import apply
from tests.helpers import raised
from tests.test_edits import random_edits


def survivors(length, edits):
    """For each item of the new text its old place, or -1."""
    items = list(range(length + 1))
    for start, end, new in edits:
        items[start:end] = [-1] * len(new)
    return items


class ExampleTest(unittest.TestCase):
    def test_example(self):
        carry = carry_of(5, [(1, 3, "xyz")])
        found = [carry.runs, carry.to_new(2), carry.to_new(5), carry.move(2, side="left"), carry.move(2, side="right")]
        self.assertEqual(found, [((0, 0, 1), (3, 4, 3)), -1, 6, 1, 4])
        self.assertEqual((carry.old, carry.new, list(carry)), (5, 6, [(0, 0, 1), (3, 4, 3)]))


class RunsTest(unittest.TestCase):
    def test_no_edits(self):
        for edits in ([], [(2, 2, "")], [(1, 1, "x"), (1, 2, "")]):
            self.assertEqual(carry_of(3, edits).runs, ((0, 0, 4),))
        self.assertEqual(carry_of(0, []).runs, ((0, 0, 1),))

    def test_runs_that_grow_together_again(self):
        self.assertEqual(carry_of(6, [(1, 2, ""), (3, 3, "x")]).runs, ((0, 0, 1), (2, 1, 2), (4, 4, 3)))
        self.assertEqual(carry_of(6, [(1, 2, ""), (3, 3, "x"), (3, 4, "")]).runs, ((0, 0, 1), (2, 1, 5)))

    def test_both_ends(self):
        self.assertEqual(carry_of(3, [(0, 0, "ab")]).runs, ((0, 2, 4),))
        self.assertEqual(carry_of(3, [(3, 3, "ab")]).runs, ((0, 0, 3), (3, 5, 1)))
        self.assertEqual(carry_of(3, [(0, 1, "")]).runs, ((1, 0, 3),))
        self.assertEqual(carry_of(3, [(2, 3, "")]).runs, ((0, 0, 2), (3, 2, 1)))
        self.assertEqual(carry_of(3, [(0, 3, "xy")]).runs, ((3, 2, 1),))

    def test_what_is_removed_and_inserted_again_does_not_survive(self):
        self.assertEqual(carry_of(3, [(1, 2, ""), (1, 1, "b")]).runs, ((0, 0, 1), (2, 2, 2)))
        self.assertEqual(carry_of(3, [(1, 2, "b")]).runs, ((0, 0, 1), (2, 2, 2)))

    def test_attributes_as_they_are_passed(self):
        runs = ((0, 0, 2), (5, 4, 2))
        carry = Carry(6, 5, runs)
        self.assertEqual((carry.old, carry.new, carry.runs, list(carry)), (6, 5, runs, list(runs)))

    def test_edits_that_do_not_fit(self):
        for edits, index in (([(0, 4, "")], 0), ([(0, 3, ""), (1, 1, "")], 1), ([(0, 0, ""), (-1, 0, ""), (9, 9, "")], 1), ([(2, 1, "")], 0)):
            self.assertEqual(raised(carry_of, 3, edits), ("EditError", index))


class MethodsTest(unittest.TestCase):
    def test_places_that_do_not_survive(self):
        carry = carry_of(5, [(1, 3, "xyz")])
        self.assertEqual([carry.to_new(place) for place in range(-1, 8)], [-1, 0, -1, -1, 4, 5, 6, -1, -1])
        self.assertEqual([carry.to_old(place) for place in range(-1, 9)], [-1, 0, -1, -1, -1, 3, 4, 5, -1, -1])
        self.assertEqual([place in carry for place in range(-1, 7)], [False, True, False, False, True, True, True, False])

    def test_intact(self):
        carry = carry_of(6, [(2, 2, "x"), (4, 5, "")])
        # The old characters 0 1 | 2 | 4 5 and the end: x comes before 2, and 3 is removed.
        self.assertEqual(carry.runs, ((0, 0, 2), (2, 3, 1), (4, 4, 3)))
        good = [(start, end) for start in range(7) for end in range(start, 8) if carry.intact(start, end)]
        self.assertEqual([pair for pair in good if pair[0] < pair[1]], [(0, 1), (0, 2), (1, 2), (2, 3), (4, 5), (4, 6), (4, 7), (5, 6), (5, 7), (6, 7)])
        self.assertTrue(all(carry.intact(place, place) for place in range(8)))

    def test_a_carry_without_a_surviving_character(self):
        carry = carry_of(3, [(0, 3, "xy")])
        self.assertEqual([carry.move(place, side="left") for place in range(4)], [0, 0, 0, 0])
        self.assertEqual([carry.move(place, side="right") for place in range(4)], [2, 2, 2, 2])
        self.assertEqual([carry.to_new(place) for place in range(4)], [-1, -1, -1, 2])
        self.assertEqual([carry.intact(place, place + 1) for place in range(4)], [False, False, False, True])
        self.assertEqual([carry_of(0, [(0, 0, "ab")]).move(0, side=side) for side in ("left", "right")], [0, 2])

    def test_move_at_an_insertion(self):
        carry = carry_of(4, [(2, 2, "xyz")])
        self.assertEqual([carry.move(place, side="left") for place in range(5)], [0, 1, 2, 6, 7])
        self.assertEqual([carry.move(place, side="right") for place in range(5)], [0, 1, 5, 6, 7])


class SlowTest(unittest.TestCase):
    def check(self, carry, items, length):
        """Compares a carry with the list of the old places of the items of the new text."""
        self.assertEqual((carry.old, carry.new), (length, len(items) - 1))
        back = {old: new for new, old in enumerate(items) if old >= 0}
        self.assertEqual([carry.to_new(place) for place in range(length + 1)], [back.get(place, -1) for place in range(length + 1)])
        self.assertEqual([carry.to_old(place) for place in range(len(items))], items)
        runs = []
        for old, new in sorted(back.items()):
            if runs and (old, new) == (runs[-1][0] + runs[-1][2], runs[-1][1] + runs[-1][2]):
                runs[-1][2] += 1
            else:
                runs.append([old, new, 1])
        self.assertEqual(carry.runs, tuple(tuple(run) for run in runs))
        self.assertIsInstance(carry.runs, tuple)
        for start in range(length + 1):
            self.assertEqual(start in carry, start in back)
            for end in range(start, length + 2):
                places = [back.get(place, -9) for place in range(start, end)]
                good = all(place >= 0 for place in places) and all(b == a + 1 for a, b in zip(places, places[1:]))
                self.assertEqual(carry.intact(start, end), good)
            before = [back[place] + 1 for place in range(start) if place in back]
            self.assertEqual(carry.move(start, side="left"), before[-1] if before else 0)
            self.assertEqual(carry.move(start, side="right"), [back[place] for place in range(start, length + 1) if place in back][0])

    def test_random_edits(self):
        chance = random.Random(7)
        for _ in range(400):
            length = chance.randint(0, 9)
            edits = random_edits(chance, length, chance.randint(0, 6))
            self.check(carry_of(length, edits), survivors(length, edits), length)

    def test_sums_and_ways_back(self):
        chance = random.Random(8)
        for _ in range(300):
            length = chance.randint(0, 9)
            edits = random_edits(chance, length, chance.randint(0, 4))
            first = carry_of(length, edits)
            more = random_edits(chance, first.new, chance.randint(0, 4))
            second = carry_of(first.new, more)
            kept = (first.old, first.new, first.runs, second.old, second.new, second.runs)
            self.check(first + second, survivors(length, edits + more), length)
            self.assertEqual((first + second).runs, carry_of(length, edits + more).runs)
            items = survivors(length, edits)
            back = [items.index(place) if place in items else -1 for place in range(length + 1)]
            self.check(-first, back, first.new)
            self.assertEqual((first + (-first)).runs == ((0, 0, length + 1),), all(place in items for place in range(length + 1)))
            self.assertEqual((first.old, first.new, first.runs, second.old, second.new, second.runs), kept)

    def test_the_bounds(self):
        chance = random.Random(9)
        edits = random_edits(chance, 2000, 200)
        carry = carry_of(2000, edits)
        items = survivors(2000, edits)
        self.assertEqual([carry.to_old(place) for place in range(carry.new + 1)], items)
        self.assertEqual(carry.new, len(apply("x" * 2000, edits)))


if __name__ == "__main__":
    unittest.main()
