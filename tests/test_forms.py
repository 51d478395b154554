"""[8.1] to [8.4] and [4.9]: how forms match nodes, and the tests."""

import random
import unittest

from mendedtree.asking.matching import Matcher, captured_texts, holds
from mendedtree.grammar.grammar import Grammar
from mendedtree.trees.seeing import seen
from tests.helpers import error, inner, leaf, root

GRAMMAR = Grammar(
    "g", kinds=[("a", ("set", "a")), ("b", ("set", "b"))], rules=["s", "h", "t"],
    alternatives=[
        ("s", ("a", "h", "b"), ("one", "many", ""), ""), ("h", ("h", "t"), ("", "own"), ""), ("h", (), (), ""),
        ("t", ("a",), ("",), ""), ("h", ("h", "a"), ("", ""), ""), ("s", ("a", "b", "a"), ("x", "", "x"), ""),
    ],
    hidden=["h"],
)
A = leaf("a", 1)
B = leaf("b", 2, lead=1)


def t(*nodes):
    return inner("t", *nodes, alternative=3)


def h(*nodes):
    return inner("h", *nodes, alternative={0: 2, "t": 1, "a": 4, "error": 1}[nodes[1].kind if nodes else 0])


def s(*nodes):
    return inner("s", *nodes, alternative=0)


def node_form(kind, *items, capture=""):
    return ("node", kind, items, capture)


def child(form, label="", optional=False):
    return ("child", label, form, optional)


ANCHOR = ("anchor",)


def pairs(form, node, grammar=GRAMMAR):
    """The bindings of a form, as lists of pairs (capture, offset)."""
    found = Matcher(grammar, [form]).bindings(0, node)
    return [[(name, offset) for name, offset, _ in binding] for binding in found]


class SeenTest(unittest.TestCase):
    def test_hidden_children_are_replaced(self):
        first, second = t(A), A
        nothing = h()
        tree = s(A, h(h(nothing, first), second), B)
        self.assertEqual(seen(GRAMMAR, tree), [(0, "one", A), (1, "own", first), (2, "many", second), (3, "", B)])

    def test_labels_of_hidden_nodes_inside_each_other(self):
        tree = s(A, h(h(h(), A), A), B)
        self.assertEqual([label for _, label, _ in seen(GRAMMAR, tree)], ["one", "many", "many", ""])

    def test_hidden_nodes_themselves(self):
        inside = t(A)
        self.assertEqual(seen(GRAMMAR, h(h(h(), inside), A)), [(0, "own", inside), (1, "", A)])

    def test_errors_and_roots(self):
        lost = error("h", A, h(h(), A), A, popped=2)
        self.assertEqual([(offset, label) for offset, label, _ in seen(GRAMMAR, lost)], [(0, ""), (1, ""), (2, "")])
        self.assertEqual(seen(GRAMMAR, s(A, lost, B))[1], (1, "many", lost))
        tree = h(h(), A)
        self.assertEqual(seen(GRAMMAR, root(tree, leaf("end", 0)))[0], (0, "", A))
        self.assertEqual(seen(GRAMMAR, h(h(), error("t", A)))[0][1], "own")

    def test_leaves_and_empty_nodes(self):
        self.assertEqual(seen(GRAMMAR, A), [])
        self.assertEqual(seen(GRAMMAR, h()), [])
        self.assertEqual(seen(GRAMMAR, error("s")), [])

    def test_deep_tree(self):
        node = h()
        for _ in range(4000):
            node = h(node, A)
        found = seen(GRAMMAR, s(A, node, B))
        self.assertEqual([offset for offset, _, _ in found], list(range(4002)))
        self.assertEqual({label for _, label, _ in found[1:-1]}, {"many"})


class SeenNodesTest(unittest.TestCase):
    def test_order_and_places(self):
        inside = t(A)
        tree = root(s(A, h(h(), inside), B), leaf("end", 1, lead=1))
        kinds = [(place, node.kind) for place, node in Matcher(GRAMMAR, []).seen_nodes(tree)]
        self.assertEqual(kinds, [(0, "root"), (0, "s"), (0, "a"), (1, "t"), (1, "a"), (2, "b"), (4, "end")])


class KindTest(unittest.TestCase):
    def test_kinds(self):
        self.assertEqual(pairs(node_form("a"), A), [[]])
        self.assertEqual(pairs(node_form("b"), A), [])
        for node in (A, t(A), error("s"), root(t(A), leaf("end", 0)), leaf("end", 0), leaf("stray", 1, state=-1)):
            self.assertEqual(pairs(node_form("_", capture="x"), node), [[("x", 0)]])
            self.assertEqual(pairs(node_form(node.kind, capture="x"), node), [[("x", 0)]])
            self.assertEqual(pairs(node_form("s", capture="x"), node), [])

    def test_choices(self):
        form = ("choice", (node_form("a", capture="x"), node_form("b"), node_form("_", capture="y")), "z")
        self.assertEqual(pairs(form, A), [[("z", 0), ("x", 0)], [("z", 0), ("y", 0)]])
        self.assertEqual(pairs(form, B), [[("z", 0)], [("z", 0), ("y", 0)]])

    def test_captured_nodes(self):
        tree = s(A, h(h(), t(A)), B)
        form = node_form("s", child(node_form("t", child(node_form("a", capture="y")), capture="x")), capture="w")
        binding = Matcher(GRAMMAR, [form]).bindings(0, tree)[0]
        inside = tree.nodes[1].nodes[1]
        self.assertEqual(binding, (("w", 0, tree), ("x", 1, inside), ("y", 1, inside.nodes[0])))


class ItemsTest(unittest.TestCase):
    def setUp(self):
        # The seen children are a, t, a, t, b at the places 0 to 4; the second t has an a inside.
        self.first, self.second = t(A), t(A)
        self.tree = s(A, h(h(h(h(), self.first), A), self.second), B)

    def check(self, items, expected):
        self.assertEqual(pairs(node_form("s", *items), self.tree), expected)

    def test_children_in_order(self):
        any_x = child(node_form("_", capture="x"))
        self.check([any_x], [[("x", place)] for place in (0, 1, 2, 3, 4)])
        self.check([child(node_form("a", capture="x")), child(node_form("t", capture="y"))],
                   [[("x", 0), ("y", 1)], [("x", 0), ("y", 3)], [("x", 2), ("y", 3)]])
        self.check([child(node_form("b")), child(node_form("a"))], [])
        self.check([any_x] + [child(node_form("_"))] * 5, [])

    def test_equal_bindings_are_kept(self):
        self.check([child(node_form("t"))], [[], []])
        self.check([child(node_form("_")), child(node_form("_"))], [[]] * 10)

    def test_labels(self):
        self.check([child(node_form("_", capture="x"), "own")], [[("x", 1)], [("x", 3)]])
        self.check([child(node_form("_", capture="x"), "many")], [[("x", 2)]])
        self.check([child(node_form("_", capture="x"), "none")], [])
        self.check([child(node_form("b", capture="x"), "one")], [])

    def test_optional_children(self):
        self.check([child(node_form("t", capture="x"), "", True)], [[("x", 1)], [("x", 3)], []])
        self.check([child(node_form("end", capture="x"), "", True)], [[]])
        self.check([child(node_form("t", capture="x"), "", True), child(node_form("t", capture="y"))],
                   [[("x", 1), ("y", 3)], [("y", 1)], [("y", 3)]])
        self.check([child(node_form("b", capture="x"), "", True), child(node_form("a", capture="y"), "", True)],
                   [[("x", 4)], [("y", 0)], [("y", 2)], []])

    def test_anchors(self):
        x, y = child(node_form("_", capture="x")), child(node_form("_", capture="y"))
        self.check([ANCHOR, x], [[("x", 0)]])
        self.check([x, ANCHOR], [[("x", 4)]])
        self.check([ANCHOR, x, ANCHOR], [])
        self.check([ANCHOR, x, y, ANCHOR], [[("x", 0), ("y", 4)]])
        self.check([child(node_form("a", capture="x")), ANCHOR, y], [[("x", 0), ("y", 1)], [("x", 2), ("y", 3)]])
        self.check([ANCHOR], [])

    def test_anchors_without_children(self):
        empty = error("s")
        self.assertEqual(pairs(node_form("error", ANCHOR), empty), [[]])
        optional = child(node_form("a", capture="x"), "", True)
        self.assertEqual(pairs(node_form("error", ANCHOR, optional, ANCHOR), empty), [[]])
        self.assertEqual(pairs(node_form("error", ANCHOR, optional, ANCHOR), error("s", A)), [[("x", 0)]])
        self.assertEqual(pairs(node_form("error", ANCHOR, optional, ANCHOR), error("s", A, A)), [])
        self.assertEqual(pairs(node_form("error", ANCHOR, optional), error("s", A, A)), [[("x", 0)]])

    def test_anchors_around_children_that_are_not_chosen(self):
        missing = child(node_form("end"), "", True)
        y = child(node_form("_", capture="y"))
        self.check([child(node_form("a", capture="x")), ANCHOR, missing, y], [[("x", 0), ("y", 1)], [("x", 2), ("y", 3)]])
        self.check([child(node_form("a", capture="x")), missing, ANCHOR, y], [[("x", 0), ("y", 1)], [("x", 2), ("y", 3)]])
        self.check([ANCHOR, missing, ANCHOR, y], [[("y", 0)]])
        self.check([y, ANCHOR, missing], [[("y", 4)]])

    def test_inside(self):
        self.check([("inside", node_form("a", capture="x"))], [[("x", place)] for place in (0, 1, 2, 3)])
        self.check([("inside", node_form("s"))], [])
        self.check([("inside", node_form("t", ("inside", node_form("a", capture="y")), capture="x"))],
                   [[("x", 1), ("y", 1)], [("x", 3), ("y", 3)]])
        self.check([child(node_form("b", capture="x")), ("inside", node_form("t", capture="y"))],
                   [[("x", 4), ("y", 1)], [("x", 4), ("y", 3)]])

    def test_inside_sees_nodes_before_their_children(self):
        found = pairs(node_form("s", ("inside", ("choice", (node_form("t", capture="x"), node_form("a", capture="y")), ""))), self.tree)
        self.assertEqual(found, [[("y", 0)], [("x", 1)], [("y", 1)], [("y", 2)], [("x", 3)], [("y", 3)]])

    def test_absent(self):
        self.check([("absent", "none"), child(node_form("b", capture="x"))], [[("x", 4)]])
        self.check([("absent", "own"), child(node_form("b", capture="x"))], [])
        self.check([child(node_form("b")), ("absent", "many")], [])
        self.check([("absent", "")][:0], [[]])

    def test_anchor_before_inside_and_absent(self):
        self.check([ANCHOR, ("inside", node_form("b")), ("absent", "z"), child(node_form("_", capture="x"))], [[("x", 0)]])

    def test_hidden_kinds_are_not_seen(self):
        self.check([child(node_form("h"))], [])
        self.check([("inside", node_form("h"))], [])

    def test_deep_tree(self):
        grammar = Grammar("d", kinds=[("a", ("set", "a"))], rules=["s"], alternatives=[("s", ("s", "a"), ("", ""), "")])
        node = inner("s", A)
        for _ in range(1500):
            node = inner("s", node, A)
        form = node_form("s", ("inside", node_form("s", ANCHOR, child(node_form("a", capture="x")))))
        self.assertEqual(pairs(form, node, grammar), [[("x", 0)]])

    def test_many_ways_that_lead_nowhere(self):
        tree = error("s", *[A] * 60, *[B] * 3)
        items = [child(node_form("a"))] * 12
        self.assertEqual(pairs(node_form("error", *items, child(node_form("t"))), tree), [])
        self.assertEqual(pairs(node_form("error", child(node_form("t")), *items), tree), [])


def slow_bindings(form, node, grammar):
    """The bindings as [8.3] says them: all ways of all items, and then what anchors and absent items require."""
    if form[0] == "choice":
        found = [binding for member in form[1] for binding in slow_bindings(member, node, grammar)]
        return [((form[2], 0, node),) + binding for binding in found] if form[2] else found
    if form[1] not in ("_", node.kind):
        return []
    children = seen(grammar, node)
    rows = [((), ())]
    for item in form[2]:
        longer = []
        for chosen, binding in rows:
            taken = [index for index in chosen if index not in (None, "anchor")]
            for index, more in slow_ways(item, children, node, grammar):
                if isinstance(index, int) and taken and index <= taken[-1]:
                    continue
                longer.append((chosen + (index,), binding + more))
        rows = longer
    found = [binding for chosen, binding in rows if anchors_hold(chosen, len(children))]
    return [((form[3], 0, node),) + binding for binding in found] if form[3] else found


def slow_ways(item, children, node, grammar):
    if item[0] == "anchor":
        return [("anchor", ())]
    if item[0] == "absent":
        return [] if any(label == item[1] for _, label, _ in children) else [(None, ())]
    if item[0] == "inside":
        return [(None, binding) for offset, below in descendants(node, grammar, 0)
                for binding in moved(slow_bindings(item[1], below, grammar), offset)]
    found = []
    for index, (offset, label, below) in enumerate(children):
        if item[1] in ("", label):
            found.extend((index, binding) for binding in moved(slow_bindings(item[2], below, grammar), offset))
    return found + ([(None, ())] if item[3] else [])


def moved(bindings, distance):
    return [tuple((name, offset + distance, node) for name, offset, node in binding) for binding in bindings]


def descendants(node, grammar, place):
    for offset, _, below in seen(grammar, node):
        yield place + offset, below
        yield from descendants(below, grammar, place + offset)


def anchors_hold(chosen, count):
    for at, index in enumerate(chosen):
        if index == "anchor":
            before = [other for other in chosen[:at] if isinstance(other, int)]
            behind = [other for other in chosen[at:] if isinstance(other, int)]
            if (before[-1] if before else -1) + 1 != (behind[0] if behind else count):
                return False
    return True


def random_form(chance, depth):
    capture = chance.choice(["", "c" + str(chance.randint(0, 99))])
    if chance.random() < 0.15 and depth:
        return ("choice", tuple(random_form(chance, depth - 1) for _ in range(2)), capture)
    items = []
    for _ in range(chance.choice([0, 0, 1, 2, 3]) if depth else 0):
        word = chance.choice(["child", "child", "child", "inside", "anchor", "absent"])
        if word == "child":
            items.append(("child", chance.choice(["", "", "own", "many"]), random_form(chance, depth - 1), chance.random() < 0.3))
        elif word == "inside":
            items.append(("inside", random_form(chance, depth - 1)))
        elif word == "absent":
            items.append(("absent", chance.choice(["own", "x", "many", "x"])))
        elif not items or items[-1] != ANCHOR:
            items.append(ANCHOR)
    return ("node", chance.choice(["_", "_", "a", "t", "s", "error"]), tuple(items), capture)


class AgainstSlowSearchTest(unittest.TestCase):
    def test_random_forms(self):
        chance = random.Random(3)
        trees = [
            s(A, h(h(h(), t(A)), A), B), error("s", A, t(A), s(A, h(), B)), root(s(A, h(h(), t(A)), B), leaf("end", 0)),
            s(A, h(h(), error("t", A, A)), B), s(A, h(), B), error("s"), t(A),
        ]
        found = 0
        for _ in range(600):
            form = random_form(chance, 2)
            matcher = Matcher(GRAMMAR, [form, form])
            for tree in trees:
                expected = slow_bindings(form, tree, GRAMMAR)
                self.assertEqual(matcher.bindings(1, tree), expected, form)
                self.assertEqual(matcher.bindings(0, tree), expected, form)
                found += len(expected)
        self.assertGreater(found, 500)

    def test_changed_answers_change_nothing(self):
        matcher = Matcher(GRAMMAR, [node_form("_", child(node_form("_", capture="x")))])
        tree = s(A, h(), B)
        first = matcher.bindings(0, tree)
        first.clear()
        matcher.seen_children(tree).clear()
        self.assertEqual(len(matcher.bindings(0, tree)), 2)
        self.assertEqual(len(matcher.seen_children(tree)), 2)


class HoldsTest(unittest.TestCase):
    def test_each_test(self):
        texts = {"a": "x", "b": "y", "c": "x", "d": ""}
        for test, expected in (
            (("is", "a", "x"), True), (("is", "a", "y"), False), (("is", "d", ""), True), (("is", "z", ""), False),
            (("not", "a", "x"), False), (("not", "a", "y"), True), (("not", "z", "y"), False),
            (("same", "a", "c"), True), (("same", "a", "b"), False), (("same", "a", "a"), True),
            (("same", "a", "z"), False), (("same", "z", "a"), False), (("same", "z", "z"), False),
            (("differ", "a", "b"), True), (("differ", "a", "c"), False), (("differ", "a", "a"), False),
            (("differ", "a", "z"), False), (("differ", "z", "a"), False),
        ):
            self.assertIs(holds(test, texts), expected, test)

    def test_texts_of_captures(self):
        tree = s(A, h(h(), A), B)
        form = node_form("s", child(node_form("a", capture="x")), child(node_form("b", capture="y")), capture="w")
        binding = Matcher(GRAMMAR, [form]).bindings(0, tree)[0]
        self.assertEqual(captured_texts(binding, 2, "..pq r"), {"w": "pq r", "x": "p", "y": "r"})
        self.assertEqual(captured_texts((), 2, "..pq r"), {})


if __name__ == "__main__":
    unittest.main()
