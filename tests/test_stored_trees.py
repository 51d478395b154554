"""[4.11] and [4.12]: the written form of trees."""

import random
import unittest

from mendedtree.trees.node import Node, same
from mendedtree.trees.stored import read_tree, write_tree
from tests.helpers import inner, leaf, raised, root

WRITTEN = (
    '(root root 0 0 2 3 -1 0 (error sum 0 0 2 3 -1 2 (sum sum 0 0 1 2 1 0 (n n 0 0 1 2 -1 0)) ("+" "+" 2 0 1 1 -1 0)) '
    "(end end 2 0 0 1 -1 0))"
)
LEAF = "(n n 0 0 1 2 -1 0)"
# What may stand in the nodes of random trees.
NAMES = ("a", "z9_~", "root", "end", "stray", "error", '"+"', '"a b"', '"\\""', '"\\\\"', '"\\n\\t"', '"()"')


def random_tree(chance, depth):
    numbers = [chance.choice([0, 1, 9, 10, 305, 999999999]) for _ in range(6)]
    nodes = [random_tree(chance, depth - 1) for _ in range(chance.randint(0, 3))] if depth else []
    return Node(
        chance.choice(NAMES), chance.choice(NAMES), state=chance.choice([-1, numbers[0]]), lead=numbers[1], width=numbers[2],
        look=numbers[3], alternative=chance.choice([-1, numbers[4]]), nodes=nodes, popped=numbers[5],
    )


class RoundTest(unittest.TestCase):
    def test_example(self):
        tree = read_tree(WRITTEN)
        self.assertEqual(write_tree(tree), WRITTEN)
        lost = tree.nodes[0]
        self.assertEqual((tree.kind, tree.width, tree.look, tree.alternative, len(tree.nodes)), ("root", 2, 3, -1, 2))
        self.assertEqual((lost.kind, lost.symbol, lost.state, lost.popped, lost.nodes[1].kind), ("error", "sum", 0, 2, '"+"'))
        self.assertEqual((lost.nodes[0].alternative, tree.nodes[1].state, lost.nodes[0].nodes[0].look), (1, 2, 2))

    def test_the_order_of_the_attributes(self):
        node = Node("k", '"s"', state=1, lead=2, width=3, look=4, alternative=5, nodes=[leaf("a", 1)], popped=6)
        self.assertEqual(write_tree(node), '(k "s" 1 2 3 4 5 6 (a a 0 0 1 2 -1 0))')
        self.assertTrue(same(read_tree('(k "s" 1 2 3 4 5 6 (a a 0 0 1 2 -1 0))'), node))

    def test_random_trees(self):
        chance = random.Random(4)
        for _ in range(200):
            tree = random_tree(chance, 3)
            written = write_tree(tree)
            again = read_tree(written)
            self.assertTrue(same(again, tree))
            self.assertEqual(write_tree(again), written)

    def test_a_node_at_two_paths(self):
        node = leaf("a", 1)
        self.assertEqual(write_tree(inner("s", node, node)), "(s s 0 0 2 3 0 0 (a a 0 0 1 2 -1 0) (a a 0 0 1 2 -1 0))")

    def test_deep_trees(self):
        tree = leaf("a", 1)
        for _ in range(20000):
            tree = inner("s", tree)
        written = write_tree(root(tree))
        self.assertTrue(written.endswith(")" * 20002))
        self.assertTrue(same(read_tree(written), root(tree)))
        self.assertEqual(raised(read_tree, written[:-1]), ("TreeError", len(written) - 1))


class FaultTest(unittest.TestCase):
    def check(self, place, notation):
        self.assertEqual(raised(read_tree, notation), ("TreeError", place), notation)

    def test_each_end(self):
        """Each beginning of a written form can go on, so that its end is what is wrong."""
        chance = random.Random(8)
        for _ in range(20):
            written = write_tree(random_tree(chance, 2))
            for end in range(len(written)):
                self.check(end, written[:end])

    def test_superfluous_characters(self):
        for more in (" ", ")", "(", "\n", LEAF, "0"):
            self.check(len(LEAF), LEAF + more)

    def test_each_wrong_character(self):
        """At each place of a leaf, all characters that cannot stand there."""
        for written in (LEAF, '("a\\n" z~ -1 10 0 2 10 999999999)'):
            for place in range(len(written) - 1):
                for char in " ()-\"\\0159aznA`%\n\t_~.":
                    notation = written[:place] + char
                    found = raised(read_tree, notation)
                    if found is None:
                        self.assertEqual(char, ")")
                        continue
                    self.assertIn(found, (("TreeError", place), ("TreeError", place + 1)), notation)
                    possible = char == written[place] or can_stand(written[:place], char)
                    self.assertEqual(found[1] == place + 1, possible, notation)

    def test_names(self):
        for place, notation in ((1, "(A"), (1, "(0"), (1, "(_"), (1, "(~"), (1, "()"), (1, "( "), (2, "(aA"), (2, "(a-"), (2, "(a("), (3, "(a  ")):
            self.check(place, notation)
        self.check(6, "(root ")
        self.check(6, "(root A")

    def test_literals(self):
        for place, notation in (
            (2, '(""'), (2, '("`'), (2, '("%'), (2, '("\n'), (2, '("\t'), (3, '("\\a'), (3, '("\\]'), (3, '("\\'), (2, '("'), (3, '("a'), (4, '("a""'),
            (4, '("a"b'), (3, '("\\ '), (2, '("\u00e9'), (3, '("\\`'),
        ):
            self.check(place, notation)

    def test_numbers(self):
        for place, notation in (
            (5, "(n n x"), (5, "(n n +1"), (6, "(n n -2"), (6, "(n n --1"), (6, "(n n -0"), (7, "(n n -10"), (6, "(n n 00"), (6, "(n n 01"),
            (7, "(n n 0 -1"), (14, "(n n 1234567890"), (14, "(n n 123456789"), (7, "(n n 1 )"), (5, "(n n )"), (5, "(n n \u0663"),
        ):
            self.check(place, notation)
        self.assertEqual(read_tree("(n n 0 999999999 0 0 -1 0)").lead, 999999999)

    def test_children(self):
        for place, notation in (
            (0, ""), (0, " "), (0, "n"), (0, ")"), (17, LEAF[:-1] + "("), (18, LEAF[:-1] + " )"), (18, LEAF[:-1] + " n"), (18, LEAF[:-1] + "  "),
            (17, LEAF[:-1] + "-"), (17, LEAF[:-1] + "0"), (len(LEAF) + 18, LEAF[:-1] + " " + LEAF), (len(LEAF) + 18, LEAF[:-1] + " " + LEAF + "("),
        ):
            self.check(place, notation)


def can_stand(begin, char):
    """Tells whether a written form can begin with some text and a character, by trying out what may follow."""
    numbers = [" 0"] * 6
    for rest in ('a"', "a", 'n"', '"', "1", ""):
        for count in range(7):
            for words in (numbers[:count], [" a"] + numbers[:count]):
                for closed in (")", LEAF + ")", LEAF[1:] + ")"):
                    if raised(read_tree, begin + char + rest + "".join(words) + closed) is None:
                        return True
    return False


if __name__ == "__main__":
    unittest.main()
