"""[10.9]: kept tables."""

import random
import unittest

from mendedtree.history.kepttable import KeptTable, fresh_tables


def tables_in(table):
    return [] if table.size == 0 else tables_in(table.left) + [table] + tables_in(table.right)


def count_fresh(old, new):
    return len({id(table) for table in tables_in(new)} - {id(table) for table in tables_in(old)})


class KeptTableTest(unittest.TestCase):
    def check(self, table, expected):
        """Checks the form of a table, and that it has the pairs of a dictionary."""
        self.assertIsInstance(table, KeptTable)
        self.check_form(table, sorted(expected))
        pairs = table.pairs()
        self.assertIsInstance(pairs, list)
        self.assertEqual(pairs, sorted(expected.items()))
        for key in list(expected) + ["", "zz", "k5x"]:
            self.assertIs(key in table, key in expected)
            self.assertEqual(table.worth_of(key), expected.get(key))
            self.assertEqual(table.worth_of(key, 7), expected.get(key, 7))

    def check_form(self, table, keys):
        self.assertEqual(table.size, len(keys))
        if not keys:
            self.assertEqual((table.key, table.worth, table.left, table.right, table.height), (None, None, None, None, 0))
            return
        self.assertEqual(table.height, 1 + max(table.left.height, table.right.height))
        self.assertLessEqual(abs(table.left.height - table.right.height), 1)
        middle = table.left.size
        self.assertEqual(table.key, keys[middle])
        self.check_form(table.left, keys[:middle])
        self.check_form(table.right, keys[middle + 1:])

    def test_empty(self):
        table = KeptTable.empty()
        self.check(table, {})
        self.assertEqual(table.without("a"), table)
        self.assertNotIn("", table)
        self.assertEqual(table.pairs(), [])
        self.assertIsNone(table.worth_of("a"))
        self.assertEqual(table.worth_of("a", "x"), "x")

    def test_one_key(self):
        table = KeptTable.empty().put("", 5)
        self.check(table, {"": 5})
        self.assertEqual((table.key, table.worth, table.size, table.height), ("", 5, 1, 1))
        self.assertEqual((table.left.size, table.right.size), (0, 0))
        self.assertEqual(table.without("").size, 0)

    def test_a_key_that_is_there(self):
        first = KeptTable.empty().put("a", 1).put("b", 2)
        second = first.put("a", 3)
        self.check(first, {"a": 1, "b": 2})
        self.check(second, {"a": 3, "b": 2})

    def test_a_missing_key(self):
        table = KeptTable.empty()
        for name in "hdbfljn":
            table = table.put(name, name)
        for name in ("", "a", "c", "i", "z"):
            self.assertEqual(table.without(name), table)

    def test_worth_none(self):
        table = KeptTable.empty().put("a", None)
        self.assertIn("a", table)
        self.assertIsNone(table.worth_of("a", 3))
        self.assertEqual(table.pairs(), [("a", None)])

    def test_values_are_kept_as_they_are(self):
        worth = [1]
        table = KeptTable.empty().put("b", worth).put("a", 0).put("c", 0)
        worth.append(2)
        self.assertIs(table.worth_of("b"), worth)
        self.assertEqual(table.worth_of("b"), [1, 2])
        self.assertIs(table.without("a").pairs()[0][1], worth)

    def test_ascending_and_descending_keys(self):
        names = [f"k{number:03}" for number in range(200)]
        for row in (names, names[::-1]):
            table, expected = KeptTable.empty(), {}
            for name in row:
                table = table.put(name, name + "!")
                expected[name] = name + "!"
                self.check_form(table, sorted(expected))
            self.check(table, expected)
            self.assertLessEqual(table.height, 9)
            for name in row:
                table = table.without(name)
                del expected[name]
                self.check_form(table, sorted(expected))

    def test_random_changes(self):
        chance = random.Random(61)
        for _ in range(12):
            table, expected = KeptTable.empty(), {}
            history = []
            for step in range(120):
                key = "k" + str(chance.randint(0, 40))
                if chance.random() < 0.6:
                    changed = table.put(key, step)
                    expected = {**expected, key: step}
                    self.assertLessEqual(fresh_tables(table, changed), table.height + 3)
                    self.assertEqual(fresh_tables(table, changed), count_fresh(table, changed))
                else:
                    changed = table.without(key)
                    self.assertEqual(changed == table, key not in expected)
                    expected = {other: expected[other] for other in expected if other != key}
                    self.assertEqual(fresh_tables(table, changed), count_fresh(table, changed))
                self.check(changed, expected)
                table = changed
                history.append((table, expected))
            for table, expected in history:
                self.check(table, expected)

    def test_removals_from_large_tables(self):
        chance = random.Random(62)
        for _ in range(20):
            keys = [f"k{number:03}" for number in range(chance.randint(50, 150))]
            chance.shuffle(keys)
            table = KeptTable.empty()
            for key in keys:
                table = table.put(key, 1)
            chance.shuffle(keys)
            while keys:
                table = table.without(keys.pop())
                self.check_form(table, sorted(keys))

    def test_pairs_are_new(self):
        table = KeptTable.empty().put("a", 1)
        table.pairs().clear()
        self.assertEqual(table.pairs(), [("a", 1)])

    def test_any_strings(self):
        names = ["", " ", "\n", "A", "a", "aa", "\u00e9", "\U0001f600", "~", "`"]
        table = KeptTable.empty()
        for name in names:
            table = table.put(name, len(name))
        self.check(table, {name: len(name) for name in names})


class FreshTablesTest(unittest.TestCase):
    def test_objects_are_counted(self):
        one = KeptTable.empty().put("a", 1).put("b", 2).put("c", 3)
        other = KeptTable.empty().put("a", 1).put("b", 2).put("c", 3)
        self.assertEqual(fresh_tables(one, one), 0)
        self.assertEqual(fresh_tables(one, other), 3)
        self.assertEqual(fresh_tables(KeptTable.empty(), one), 3)
        self.assertEqual(fresh_tables(one, KeptTable.empty()), 0)
        self.assertEqual(fresh_tables(one, one.left), 0)
        self.assertEqual(fresh_tables(one.left, one), 2)

    def test_a_key_that_is_set_again(self):
        table = KeptTable.empty()
        for number in range(100):
            table = table.put(f"k{number:02}", number)
        # The way from the top down to the key is new, and nothing else.
        self.assertEqual(fresh_tables(table, table.put(table.key, 0)), 1)
        self.assertEqual(fresh_tables(table, table.put(table.left.right.key, 0)), 3)


if __name__ == "__main__":
    unittest.main()
