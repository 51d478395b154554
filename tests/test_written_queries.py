"""[8.8]: the written form of queries."""

import random
import unittest

from mendedtree.asking.queries import read_query
from mendedtree.asking.written import write_query
from mendedtree.grammar.notation import read_grammar
from tests.grammars import CODE

GRAMMAR = read_grammar(CODE)
KINDS = ["word", "n", '"if"', '"="', "stat", "expr", "doc", "error", "stray", "end", "root", "_"]
LABELS = ["name", "value", "left", "then"]


class RandomQuery:
    """Makes a random query as [8.2] describes them."""

    def __init__(self, chance):
        self.chance = chance
        self.captures = []

    def query(self):
        pairs = []
        for _ in range(self.chance.randint(1, 3)):
            self.captures = []
            form = self.form(self.chance.randint(0, 4))
            pairs.append((form, tuple(self.test() for _ in range(self.chance.randint(0, 3) if self.captures else 0))))
        return tuple(pairs)

    def test(self):
        word = self.chance.choice(["is", "not", "same", "differ"])
        capture, other = self.chance.choice(self.captures), self.chance.choice(self.captures)
        if word in ("is", "not"):
            other = "".join(self.chance.choice('ab "\\\n\t@#') for _ in range(self.chance.randint(0, 4)))
        return (word, capture, other)

    def form(self, depth):
        if depth and self.chance.random() < 0.3:
            forms = tuple(self.form(depth - 1) for _ in range(self.chance.randint(2, 3)))
            return ("choice", forms, self.capture())
        items = []
        for _ in range(self.chance.randint(0, 3) if depth else 0):
            item = self.item(depth)
            if item != ("anchor",) or items[-1:] != [item]:
                items.append(item)
        return ("node", self.chance.choice(KINDS), tuple(items), self.capture())

    def item(self, depth):
        word = self.chance.choice(["anchor", "absent", "inside", "child", "child", "child"])
        if word == "anchor":
            return ("anchor",)
        if word == "absent":
            return ("absent", self.chance.choice(LABELS))
        if word == "inside":
            return ("inside", self.form(depth - 1))
        label = self.chance.choice(LABELS + [""] * 4)
        return ("child", label, self.form(depth - 1), self.chance.random() < 0.3)

    def capture(self):
        if self.chance.random() < 0.6:
            return ""
        self.captures.append(f"c{len(self.captures)}")
        return self.captures[-1]


class WriteTest(unittest.TestCase):
    def test_the_one_form(self):
        for notation, written in (
            ("n", "n"), ("(n)", "n"), ("( n )@a", "n @a"), ("_", "_"), ('"if"', '"if"'), ("[n   word(stat)]@b", "[n word stat] @b"),
            ("(stat.n.)", "(stat . n .)"), ("(stat ! name name: word@a ? value:[n word]?)", "(stat !name name:word @a? value:[n word]?)"),
            ("(stat>>n>>( expr _?)@x)@y", "(stat >> n >> (expr _?) @x) @y"), ("(stat(expr)?)", "(stat expr?)"), ("[[n n]n]", "[[n n] n]"),
            ("n  word\n\nn", "n\nword\nn"), ("(stat then:(block.))", "(stat then:(block .))"),
            ('n@a#is@a"\n\\"\\\\\\t "  #not @a "" #same@a@a\n#differ @a\n@a word', 'n @a #is @a "\\n\\"\\\\\\t " #not @a "" #same @a @a #differ @a @a\nword'),
        ):
            self.assertEqual(write_query(read_query(GRAMMAR, notation)), written)
            self.assertEqual(read_query(GRAMMAR, written), read_query(GRAMMAR, notation))

    def test_values(self):
        self.assertEqual(write_query(((("choice", (("node", "n", (), "a"), ("node", "_", (), "")), ""), (("differ", "a", "a"),)),)), "[n @a _] #differ @a @a")
        self.assertEqual(write_query(((("node", "n", (), "a"), (("is", "a", "`"),)),)), 'n @a #is @a "`"')

    def test_what_was_written_can_be_read(self):
        chance = random.Random(21)
        for _ in range(500):
            query = RandomQuery(chance).query()
            self.assertEqual(read_query(GRAMMAR, write_query(query)), query)

    def test_brackets_twelve_deep(self):
        form = ("node", "n", (), "x")
        for depth in range(12):
            if depth % 2:
                form = ("choice", (form, ("node", "_", (), "")), "")
            else:
                form = ("node", "stat", (("child", "", form, False),), "")
        query = ((form, ()),)
        self.assertEqual(read_query(GRAMMAR, write_query(query)), query)
        deeper = ((("node", "stat", (("inside", form),), ""), ()),)
        self.assertEqual(write_query(deeper), f"(stat >> {write_query(query)})")


if __name__ == "__main__":
    unittest.main()
