"""Part 10: the desk."""

import random
import time
import unittest

from mendedtree.asking.asker import ask
from mendedtree.asking.queries import read_query
from mendedtree.edits.carry import Carry
from mendedtree.edits.edit import apply, fits
from mendedtree.edits.rope import Rope, fresh_pieces
from mendedtree.errors import MendedError
from mendedtree.history.desk import Desk
from mendedtree.inner.layer import Layer, read_layers
from mendedtree.inner.relayer import count_rebuilt, reread_layers
from mendedtree.inner.shelf import Shelf
from mendedtree.trees.node import same, walk
from mendedtree.trees.paths import count_nodes
from tests.helpers import raised
from tests.languages import PAGE_TABLE, SHELF, TINY_TABLE
from tests.slow_desk import ERRORS, SlowDesk
from tests.test_layers import random_page
from tests.test_relayer import all_layers, random_layer_edits, runs

TINY_SHELF = Shelf([TINY_TABLE])


def tiny(text="1+2"):
    return Desk(TINY_SHELF, "tiny", text)


def state_of(desk):
    """All that a desk tells."""
    numbers = range(desk.versions())
    return (
        desk.current(), desk.versions(), desk.current_text(), desk.current_layer(), desk.current_tree(), desk.current_rope(), desk.built(), desk.marks(),
        desk.nodes_asked(), desk.history(), [(desk.parent(number), desk.edits_of(number), desk.children(number)) for number in numbers],
        [(desk.text_at(number), desk.layer_of(number), desk.replay(number)) for number in numbers],
    )


class DeskTest(unittest.TestCase):
    def refused(self, desk, error, function, *arguments):
        """Checks that a call raises an error and changes nothing."""
        before = state_of(desk)
        self.assertEqual(raised(function, *arguments), error)
        self.assertEqual(state_of(desk), before)


class QuestionsTest(DeskTest):
    """[10.1], [10.2]."""

    def test_example(self):
        desk = tiny()
        numbers = [desk.edit([(0, 1, "33")]), desk.edit([(4, 4, "+5")]), desk.revert(1)]
        self.assertEqual([numbers, desk.current_text(), desk.edits_of(3), desk.way(3, 1)], [[1, 2, 3], "1+2+5", [(0, 2, "1")], [3, 2, 1]])

    def test_a_new_desk(self):
        desk = Desk(SHELF, "page", "a {1}")
        self.assertEqual((desk.current(), desk.versions(), desk.current_text()), (0, 1, "a {1}"))
        self.assertIsInstance(desk.current_layer(), Layer)
        self.assertEqual((desk.current_layer().language, desk.current_layer().layers[0].text), ("page", "1"))
        self.assertEqual(desk.current_tree(), desk.current_layer().tree)
        self.assertIsInstance(desk.current_rope(), Rope)
        self.assertEqual(desk.current_rope().whole(), "a {1}")
        self.assertEqual((desk.parent(0), desk.edits_of(0), desk.children(0), desk.text_at(0)), (-1, [], [], "a {1}"))
        self.assertEqual((desk.layer_of(0), desk.marks(), desk.history()), (desk.current_layer(), [], [(0, -1, ())]))

    def test_unknown_languages(self):
        self.assertEqual(raised(Desk, SHELF, "missing", ""), ("UnknownLanguage", "missing"))
        self.assertEqual(raised(Desk, Shelf([]), "tiny", ""), ("UnknownLanguage", "tiny"))

    def test_versions(self):
        desk = tiny()
        desk.edit([(0, 0, "1")])
        desk.undo()
        desk.edit([(0, 0, "2"), (0, 0, "3")])
        self.assertEqual((desk.versions(), desk.current()), (3, 2))
        self.assertEqual([desk.parent(number) for number in range(3)], [-1, 0, 0])
        self.assertEqual([desk.children(number) for number in range(3)], [[1, 2], [], []])
        self.assertEqual([desk.text_at(number) for number in range(3)], ["1+2", "11+2", "321+2"])
        self.assertEqual([desk.edits_of(number) for number in range(3)], [[], [(0, 0, "1")], [(0, 0, "2"), (0, 0, "3")]])
        self.assertEqual([desk.layer_of(number).text for number in range(3)], ["1+2", "11+2", "321+2"])

    def test_no_version(self):
        desk = tiny()
        desk.edit([])
        for method in (desk.parent, desk.edits_of, desk.children, desk.text_at, desk.layer_of, desk.go, desk.revert, desk.replay):
            for number in (-1, 2, 99):
                self.refused(desk, ("NoVersion", number), method, number)
        for method in (desk.way, desk.carry_between):
            for first, second, wrong in ((0, 2, 2), (2, 0, 2), (-1, 5, -1), (5, -1, 5), (0, -1, -1), (1, -2, -2)):
                self.refused(desk, ("NoVersion", wrong), method, first, second)

    def test_lists_are_new(self):
        desk = tiny()
        desk.edit([(0, 0, "1")])
        desk.set_mark("a", 1)
        desk.ask("n")
        for question in (lambda: desk.edits_of(1), lambda: desk.children(0), lambda: desk.way(0, 1), desk.marks, desk.history, lambda: desk.ask("n")):
            first = question()
            self.assertIsInstance(first, list)
            kept = list(first)
            first.clear()
            self.assertEqual(question(), kept)

    def test_lists_are_copied(self):
        desk = tiny()
        edits = [(0, 1, "5")]
        desk.edit(edits)
        edits.append((9, 9, ""))
        self.assertEqual((desk.edits_of(1), desk.history()[1]), ([(0, 1, "5")], (1, 0, ((0, 1, "5"),))))

    def test_ropes_share_their_pieces(self):
        desk = tiny("1+" * 100 + "1")
        before = desk.current_rope()
        desk.edit([(50, 51, "77"), (9, 9, "8")])
        after = desk.current_rope()
        self.assertEqual(after.whole(), desk.current_text())
        self.assertLessEqual(fresh_pieces(before, after), 6)
        desk.undo()
        self.assertEqual(desk.current_rope(), before)


class EditTest(DeskTest):
    """[10.3], [10.5]."""

    def test_one_change(self):
        desk = tiny()
        self.assertEqual(desk.edit([(0, 1, "33"), (4, 4, "+5")]), 1)
        self.assertEqual((desk.current(), desk.current_text(), desk.versions()), (1, "33+2+5", 2))
        self.assertTrue(same(desk.current_tree(), read_layers(TINY_SHELF, "tiny", "33+2+5").tree))

    def test_an_empty_list_makes_a_version(self):
        desk = tiny()
        tree = desk.current_tree()
        self.assertEqual(desk.edit([]), 1)
        self.assertEqual((desk.current_text(), desk.current_tree(), desk.built(), desk.edits_of(1)), ("1+2", tree, 0, []))

    def test_edits_that_do_not_fit(self):
        desk = tiny()
        desk.edit([(0, 0, "9")])
        desk.set_mark("a", 1)
        for edits, index in (([(0, 5, "")], 0), ([(0, 4, ""), (1, 1, "")], 1), ([(-1, 0, "")], 0)):
            self.refused(desk, ("EditError", index), desk.edit, edits)

    def test_layers_are_reread(self):
        desk = Desk(SHELF, "page", "a {1} ['x']")
        inner = desk.current_layer().layers[0].tree
        relayer = reread_layers(SHELF, desk.current_layer(), [(0, 1, "b")])
        desk.edit([(0, 1, "b")])
        self.assertEqual(desk.current_layer().layers[0].tree, inner)
        self.assertEqual(desk.built(), count_rebuilt(relayer))

    def test_built(self):
        desk = Desk(SHELF, "page", "a {1} ['x']")
        everything = sum(count_nodes(layer.tree) for _, layer in all_layers(desk.current_layer()))
        self.assertEqual(desk.built(), everything)
        self.assertEqual(raised(desk.undo), ("NothingToUndo",))
        self.assertEqual(raised(desk.redo), ("NothingToRedo", 0))
        self.assertEqual(raised(desk.edit, [(99, 99, "")]), ("EditError", 0))
        self.assertEqual(desk.built(), everything)
        desk.edit([(3, 4, "2+3")])
        built = desk.built()
        self.assertGreater(built, 0)
        self.assertEqual(raised(desk.go, 7), ("NoVersion", 7))
        self.assertEqual(raised(desk.revert, 0), ("NotInPast", 0))
        self.assertEqual(raised(desk.edit, [(-1, 0, "")]), ("EditError", 0))
        desk.marks(), desk.set_mark("a", 0), desk.ask("raw"), desk.way(0, 1), desk.replay(1)
        self.assertEqual(desk.built(), built)
        for call in (desk.undo, desk.redo, lambda: desk.go(0)):
            call()
            self.assertEqual(desk.built(), 0)
        desk.go(1)
        desk.revert(1)
        self.assertGreater(desk.built(), 0)

    def test_going_reads_nothing(self):
        desk = Desk(SHELF, "page", "a {1} ['x']")
        layers = [desk.current_layer()]
        for edits in ([(0, 1, "b")], [(3, 4, "5")]):
            desk.edit(edits)
            layers.append(desk.current_layer())
        for number in (0, 2, 1, 0):
            desk.go(number)
            self.assertEqual(desk.current_layer(), layers[number])
            self.assertEqual(desk.layer_of(number), layers[number])


class WalkingTest(DeskTest):
    """[10.4]."""

    def setUp(self):
        # 0 -> 1 -> 2, 0 -> 3, 1 -> 4.
        self.desk = tiny()
        self.desk.edit([(0, 0, "1")])
        self.desk.edit([(0, 0, "2")])
        self.desk.go(0)
        self.desk.edit([(0, 0, "3")])
        self.desk.go(1)
        self.desk.edit([(0, 0, "4")])

    def test_undo(self):
        self.assertEqual([self.desk.undo(), self.desk.current(), self.desk.undo(), self.desk.current_text()], [1, 1, 0, "1+2"])
        self.refused(self.desk, ("NothingToUndo",), self.desk.undo)

    def test_redo_the_child_that_was_current_most_recently(self):
        self.desk.go(0)
        # Version 1 was current after version 3.
        self.assertEqual([self.desk.redo(), self.desk.redo()], [1, 4])
        self.desk.go(3)
        self.desk.go(0)
        self.assertEqual(self.desk.redo(), 3)

    def test_only_the_child_itself_counts(self):
        self.desk.go(3)
        self.desk.go(2)
        self.desk.go(0)
        # Version 2 comes from version 1, but version 3 was current later than version 1.
        self.assertEqual(self.desk.redo(), 3)
        self.desk.go(1)
        self.assertEqual(self.desk.redo(), 2)

    def test_undo_makes_a_version_current(self):
        self.desk.go(3)
        self.desk.go(2)
        self.desk.undo()
        self.desk.undo()
        self.assertEqual(self.desk.redo(), 1)

    def test_going_to_the_current_version_counts(self):
        self.desk.go(1)
        self.desk.go(1)
        self.desk.go(0)
        self.assertEqual(self.desk.redo(), 1)

    def test_redo_a_child(self):
        self.desk.go(0)
        self.assertEqual(self.desk.redo(3), 3)
        self.desk.undo()
        self.assertEqual(self.desk.redo(1), 1)
        self.assertEqual(self.desk.redo(-1), 4)
        self.desk.undo()
        self.assertEqual(self.desk.redo(child=2), 2)

    def test_errors_of_redo(self):
        self.refused(self.desk, ("NothingToRedo", 4), self.desk.redo)
        self.refused(self.desk, ("NothingToRedo", 4), self.desk.redo, 99)
        self.refused(self.desk, ("NothingToRedo", 4), self.desk.redo, 1)
        self.desk.go(0)
        for child in (0, 2, 4, 5, 99, -2):
            self.refused(self.desk, ("NoVersion", child), self.desk.redo, child)

    def test_go(self):
        self.assertEqual([self.desk.go(number) for number in (2, 2, 0, 4)], [2, 2, 0, 4])
        self.assertEqual(self.desk.current(), 4)

    def test_way(self):
        for first, second, expected in (
            (0, 0, [0]), (2, 2, [2]), (0, 2, [0, 1, 2]), (2, 0, [2, 1, 0]), (2, 4, [2, 1, 4]), (4, 3, [4, 1, 0, 3]), (3, 2, [3, 0, 1, 2]), (1, 2, [1, 2]),
        ):
            self.assertEqual(self.desk.way(first, second), expected)

    def test_carry_between(self):
        carry = self.desk.carry_between(2, 3)
        self.assertIsInstance(carry, Carry)
        self.assertEqual(runs(carry), (5, 4, ((2, 1, 4),)))
        self.assertEqual(runs(self.desk.carry_between(3, 2)), (4, 5, ((1, 2, 4),)))
        self.assertEqual(runs(self.desk.carry_between(0, 0)), (3, 3, ((0, 0, 4),)))
        self.assertEqual(runs(self.desk.carry_between(1, 2)), (4, 5, ((0, 1, 5),)))
        self.assertEqual(runs(self.desk.carry_between(2, 1)), (5, 4, ((1, 0, 5),)))

    def test_what_was_removed_on_the_way_does_not_survive(self):
        desk = tiny("1+2+3")
        desk.edit([(0, 2, "")])
        desk.edit([(0, 0, "1+")])
        self.assertEqual(desk.text_at(2), desk.text_at(0))
        self.assertEqual(runs(desk.carry_between(0, 2)), (5, 5, ((2, 2, 4),)))


class RevertTest(DeskTest):
    """[10.7]."""

    def test_the_current_version(self):
        desk = tiny()
        desk.edit([(0, 1, "5"), (3, 3, "6")])
        self.assertEqual((desk.revert(1), desk.current_text(), desk.edits_of(2)), (2, "1+2", [(3, 4, ""), (0, 1, "1")]))
        self.assertEqual((desk.parent(2), desk.current()), (1, 2))

    def test_a_version_before_others(self):
        desk = tiny("1+2+3")
        desk.edit([(4, 5, "4")])
        desk.edit([(2, 2, "99")])
        desk.edit([(0, 0, "8+")])
        self.assertEqual(desk.revert(2), 4)
        self.assertEqual((desk.current_text(), desk.edits_of(4)), ("8+1+2+4", [(4, 6, "")]))
        self.assertEqual(desk.revert(1), 5)
        self.assertEqual(desk.current_text(), "8+1+2+3")

    def test_reverts_of_reverts(self):
        desk = tiny("1+2")
        desk.edit([(0, 1, "33")])
        desk.edit([(4, 4, "+5")])
        desk.revert(1)
        self.assertEqual(desk.current_text(), "1+2+5")
        self.assertEqual((desk.revert(3), desk.current_text()), (4, "33+2+5"))
        self.assertEqual((desk.revert(4), desk.current_text()), (5, "1+2+5"))
        self.assertEqual((desk.revert(2), desk.current_text()), (6, "1+2"))

    def test_the_text_is_that_of_the_moved_edits(self):
        # An edit at the same place lies before by [6.7], so the reverted insertion is found behind it.
        desk = tiny("12")
        desk.edit([(1, 1, "3")])
        desk.edit([(1, 1, "4")])
        self.assertEqual(desk.current_text(), "1432")
        desk.revert(1)
        self.assertEqual((desk.current_text(), desk.edits_of(3)), ("142", [(2, 3, "")]))

    def test_empty_edits(self):
        desk = tiny()
        desk.edit([])
        desk.edit([(0, 1, "7")])
        self.assertEqual((desk.revert(1), desk.current_text(), desk.edits_of(3)), (3, "7+2", []))

    def test_entangled(self):
        desk = tiny()
        desk.edit([(0, 1, "345")])
        desk.edit([(5, 5, "+9"), (1, 2, "6")])
        self.refused(desk, ("Entangled", (0, 1, "345"), (1, 2, "6")), desk.revert, 1)
        desk.edit([(0, 0, "1+")])
        self.refused(desk, ("Entangled", (0, 1, "345"), (1, 2, "6")), desk.revert, 1)
        self.assertEqual(desk.revert(3), 4)

    def test_not_in_the_past(self):
        desk = tiny()
        desk.edit([(0, 0, "1")])
        desk.undo()
        desk.edit([(0, 0, "2")])
        for number in (0, 1):
            self.refused(desk, ("NotInPast", number), desk.revert, number)
        desk.go(0)
        for number in (0, 1, 2):
            self.refused(desk, ("NotInPast", number), desk.revert, number)
        self.refused(desk, ("NoVersion", 3), desk.revert, 3)


class MarksTest(DeskTest):
    """[10.8]."""

    def test_set_and_drop(self):
        desk = tiny()
        for name, place, side in (("b", 3, "left"), ("", 0, "right"), ("A", 1, "left"), ("\u00e9", 2, "right")):
            desk.set_mark(name, place, side=side)
        desk.set_mark("a", 2)
        self.assertEqual(desk.marks(), [("", 0, "right"), ("A", 1, "left"), ("a", 2, "right"), ("b", 3, "left"), ("\u00e9", 2, "right")])
        desk.set_mark("b", 1)
        desk.drop_mark("A")
        self.assertEqual(desk.marks(), [("", 0, "right"), ("a", 2, "right"), ("b", 1, "right"), ("\u00e9", 2, "right")])

    def test_bad_marks(self):
        desk = tiny()
        desk.set_mark("a", 1, side="left")
        for place, side in ((-1, "left"), (4, "right"), (0, ""), (0, "Left"), (0, "middle"), (9, "x")):
            before = state_of(desk)
            with self.assertRaises(MendedError) as caught:
                desk.set_mark("a", place, side=side)
            self.assertEqual((type(caught.exception).__name__, caught.exception.name), ("BadMark", "a"))
            self.assertEqual(state_of(desk), before)
        self.refused(desk, ("NoMark", "b"), desk.drop_mark, "b")
        desk.drop_mark("a")
        self.refused(desk, ("NoMark", "a"), desk.drop_mark, "a")

    def test_edits_carry_marks(self):
        desk = tiny("1+2+3")
        for place in range(6):
            desk.set_mark(f"l{place}", place, side="left")
            desk.set_mark(f"r{place}", place)
        desk.edit([(2, 3, ""), (2, 2, "45")])
        found = {name: place for name, place, _ in desk.marks()}
        self.assertEqual([found[f"l{place}"] for place in range(6)], [0, 1, 2, 2, 5, 6])
        self.assertEqual([found[f"r{place}"] for place in range(6)], [0, 1, 4, 4, 5, 6])
        self.assertEqual([side for name, _, side in desk.marks()], ["left"] * 6 + ["right"] * 6)

    def test_the_carry_of_the_whole_list(self):
        # The characters are put in and taken out again, so that the marks stay where they are.
        desk = tiny("1+2")
        desk.set_mark("a", 1, side="left")
        desk.set_mark("b", 1)
        desk.edit([(1, 1, "99"), (1, 3, "")])
        self.assertEqual(desk.marks(), [("a", 1, "left"), ("b", 1, "right")])
        desk.edit([(1, 2, ""), (1, 1, "-")])
        self.assertEqual(desk.marks(), [("a", 1, "left"), ("b", 2, "right")])

    def test_each_version_has_its_own_marks(self):
        desk = tiny()
        desk.set_mark("a", 3)
        desk.edit([(0, 0, "1")])
        self.assertEqual(desk.marks(), [("a", 4, "right")])
        desk.set_mark("a", 0)
        desk.set_mark("b", 1)
        desk.undo()
        self.assertEqual(desk.marks(), [("a", 3, "right")])
        desk.drop_mark("a")
        desk.redo()
        self.assertEqual(desk.marks(), [("a", 0, "right"), ("b", 1, "right")])
        desk.go(0)
        self.assertEqual(desk.marks(), [])
        # A new version has the marks that its parent has at that moment.
        desk.set_mark("c", 2, side="left")
        desk.edit([])
        self.assertEqual(desk.marks(), [("c", 2, "left")])

    def test_reverts_carry_marks(self):
        desk = tiny("1+2")
        desk.edit([(0, 1, "345")])
        desk.set_mark("a", 2, side="left")
        desk.set_mark("b", 2)
        desk.set_mark("c", 4)
        desk.edit([(5, 5, "6")])
        desk.revert(1)
        self.assertEqual((desk.current_text(), desk.marks()), ("1+26", [("a", 0, "left"), ("b", 1, "right"), ("c", 2, "right")]))


class AskTest(DeskTest):
    """[10.10]."""

    def test_answers(self):
        desk = Desk(SHELF, "page", "a {1} b")
        self.assertEqual(desk.nodes_asked(), 0)
        grammar = PAGE_TABLE.grammar
        self.assertEqual(desk.ask("raw @a"), ask(grammar, read_query(grammar, "raw @a"), desk.current_tree(), desk.current_text()))
        self.assertEqual(desk.nodes_asked(), count_nodes(desk.current_tree()))

    def test_each_notation_has_an_asker_that_goes_on(self):
        desk = Desk(SHELF, "page", "a {1} b")
        desk.ask("raw @a")
        everything = desk.nodes_asked()
        first = desk.current_tree()
        desk.edit([(0, 1, "c")])
        new = {id(node) for _, node in walk(desk.current_tree())} - {id(node) for _, node in walk(first)}
        self.assertEqual(len(desk.ask("raw @a")), 2)
        self.assertEqual(desk.nodes_asked(), len(new))
        # Another notation of the same query is asked for the first time.
        desk.ask("raw@a")
        self.assertEqual(desk.nodes_asked(), everything)
        desk.ask("raw @a")
        self.assertEqual(desk.nodes_asked(), 0)
        desk.undo()
        desk.ask("raw@a")
        self.assertEqual(desk.nodes_asked(), len(new))

    def test_wrong_queries(self):
        desk = tiny()
        desk.ask("n")
        self.refused(desk, ("QueryError", 0, "kind"), desk.ask, "foo")
        self.refused(desk, ("QueryError", 0, "word"), desk.ask, "")
        self.assertEqual(desk.nodes_asked(), count_nodes(desk.current_tree()))

    def test_only_the_outermost_tree_is_asked(self):
        desk = Desk(SHELF, "page", "{1}")
        self.assertEqual(desk.ask("code @a"), [(0, 1, (("a", 1, 2),))])
        self.assertEqual(raised(desk.ask, "sum"), ("QueryError", 0, "kind"))


class HistoryTest(DeskTest):
    """[10.11]."""

    def setUp(self):
        self.desk = Desk(SHELF, "page", "a {1}")
        self.desk.edit([(0, 1, "b"), (5, 5, "{2}")])
        self.desk.undo()
        self.desk.edit([])
        self.desk.edit([(5, 5, "'c'")])

    def test_history(self):
        history = self.desk.history()
        self.assertEqual(history, [(0, -1, ()), (1, 0, ((0, 1, "b"), (5, 5, "{2}"))), (2, 0, ()), (3, 2, ((5, 5, "'c'"),))])
        self.assertIsInstance(history[1][2], tuple)

    def test_replay(self):
        for number in range(4):
            self.assertEqual(self.desk.replay(number), self.desk.text_at(number))
        self.assertEqual(self.desk.replay(1), "b {1}{2}")

    def test_restored(self):
        self.desk.set_mark("x", 1)
        desk = Desk.restored(SHELF, "page", "a {1}", self.desk.history())
        self.assertIsInstance(desk, Desk)
        self.assertEqual((desk.history(), desk.current(), desk.marks()), (self.desk.history(), 3, []))
        for number in range(4):
            self.assertEqual(desk.text_at(number), self.desk.text_at(number))
            self.assertTrue(same(desk.layer_of(number).tree, self.desk.layer_of(number).tree))
        self.assertEqual(desk.built(), self.desk.built())
        desk.go(0)
        self.assertEqual(desk.redo(), 2)

    def test_the_current_version_is_the_last_one(self):
        self.desk.go(1)
        self.assertEqual(Desk.restored(SHELF, "page", "a {1}", self.desk.history()).current(), 3)
        desk = Desk.restored(SHELF, "page", "xyz", [(0, -1, ())])
        self.assertEqual((desk.current(), desk.current_text(), desk.built()), (0, "xyz", count_nodes(desk.current_tree())))

    def test_lists_of_edits_in_a_history(self):
        history = [(0, -1, []), (1, 0, [(0, 0, "z")])]
        desk = Desk.restored(SHELF, "page", "a", history)
        self.assertEqual(desk.history(), [(0, -1, ()), (1, 0, ((0, 0, "z"),))])
        self.assertEqual(history, [(0, -1, []), (1, 0, [(0, 0, "z")])])
        history[1][2].append((9, 9, ""))
        self.assertEqual(desk.edits_of(1), [(0, 0, "z")])

    def test_bad_histories(self):
        good = [(0, -1, ()), (1, 0, ((0, 1, "bcd"),)), (2, 1, ((3, 3, ""),)), (3, 0, ())]
        self.assertEqual(Desk.restored(SHELF, "page", "a", good).versions(), 4)
        for index, triple in (
            (0, (1, -1, ())), (0, (0, 0, ())), (0, (0, -2, ())), (0, (0, -1, ((0, 0, ""),))), (1, (0, 0, ())), (1, (2, 0, ())), (1, (1, 1, ())), (1, (1, -1, ())),
            (1, (1, 2, ())), (1, (1, 0, ((0, 2, ""),))), (2, (2, 0, ((3, 3, ""),))), (2, (2, 2, ())), (2, (2, 1, ((0, 3, ""), (1, 1, "")))), (3, (3, 3, ())),
            (3, (3, 99, ())), (3, (-3, 0, ())), (2, (2, -1, ())), (0, (-1, -1, ())),
        ):
            history = good[:index] + [triple] + good[index + 1:]
            self.assertEqual(raised(Desk.restored, SHELF, "page", "a", history), ("BadHistory", index), triple)
        self.assertEqual(raised(Desk.restored, SHELF, "page", "a", []), ("BadHistory", 0))

    def test_the_first_bad_triple(self):
        self.assertEqual(raised(Desk.restored, SHELF, "page", "a", [(0, -1, ()), (1, 5, ()), (7, 0, ())]), ("BadHistory", 1))
        self.assertEqual(raised(Desk.restored, SHELF, "page", "a", [(0, -1, ()), (1, 0, ((9, 9, ""),)), (7, 0, ())]), ("BadHistory", 1))

    def test_the_language_comes_first(self):
        for history in ([], [(5, 5, ())], [(0, -1, ())]):
            self.assertEqual(raised(Desk.restored, SHELF, "missing", "a", history), ("UnknownLanguage", "missing"))


class RowsOfDeedsTest(DeskTest):
    """Whole rows of deeds, compared with a desk that reads everything anew."""

    def test_random_deeds(self):
        chance = random.Random(71)
        for _ in range(25):
            text = random_page(chance, 10)
            desk, slow = Desk(SHELF, "page", text), SlowDesk(SHELF, "page", text)
            notations = ["raw @a", "(item \"{\" code @a \"}\") (error >> _ @a)", "_"]
            last = {notation: [] for notation in notations}
            for _ in range(25):
                self.deed(chance, desk, slow)
                self.compare(desk, slow)
                if chance.random() < 0.3:
                    self.ask_both(desk, chance.choice(notations), last)
            self.compare_whole(desk, slow)
            restored = Desk.restored(SHELF, "page", text, desk.history())
            self.assertEqual(restored.history(), desk.history())
            self.assertEqual([restored.text_at(number) for number in range(restored.versions())], [version[2] for version in slow.all])

    def deed(self, chance, desk, slow):
        word = chance.choice(["edit", "edit", "edit", "undo", "redo", "redo", "go", "revert", "revert", "mark", "mark", "drop"])
        number = chance.randint(-1, len(slow.all))
        if word == "edit":
            edits = random_layer_edits(chance, slow.all[slow.now][2], random_page, chance.choice([0, 1, 1, 2]))
            edits += [(99, 99, "")] * (chance.random() < 0.1)
            return self.both(desk, slow, "edit", edits)
        if word == "redo":
            return self.both(desk, slow, "redo", *[number] * chance.randint(0, 1))
        if word == "undo":
            return self.both(desk, slow, "undo")
        if word in ("go", "revert"):
            return self.both(desk, slow, word, number)
        name = chance.choice("abcde")
        if word == "drop":
            return self.both(desk, slow, "drop_mark", name)
        return self.both(desk, slow, "set_mark", name, chance.randint(0, len(slow.all[slow.now][2]) + 1), side=chance.choice(["left", "right"]))

    def both(self, desk, slow, method, *arguments, **more):
        before = state_of(desk)
        expected, wrong = None, None
        try:
            expected = getattr(slow, method)(*arguments, **more)
        except ERRORS as fault:
            wrong = (type(fault), vars(fault))
        if wrong is None:
            self.assertEqual(getattr(desk, method)(*arguments, **more), expected)
            if method in ("undo", "redo", "go"):
                self.assertEqual(desk.built(), 0)
            elif method in ("edit", "revert"):
                relayer = reread_layers(SHELF, desk.layer_of(desk.parent(expected)), desk.edits_of(expected))
                self.assertEqual(desk.built(), count_rebuilt(relayer))
            else:
                self.assertEqual(desk.built(), before[6])
        else:
            with self.assertRaises(wrong[0]) as caught:
                getattr(desk, method)(*arguments, **more)
            self.assertEqual(vars(caught.exception), wrong[1])
            self.assertEqual(state_of(desk), before)

    def compare(self, desk, slow):
        parent, edits, text, _ = slow.all[slow.now]
        self.assertEqual((desk.current(), desk.current_text(), desk.marks(), desk.versions()), (slow.now, text, slow.marks(), len(slow.all)))
        self.assertEqual((desk.parent(slow.now), desk.edits_of(slow.now)), (parent, edits))
        self.assertEqual(desk.current_rope().whole(), text)
        self.compare_layers(desk.current_layer(), slow.layer(slow.now))

    def compare_layers(self, one, other):
        self.assertEqual((one.language, one.pieces, one.text, len(one.layers)), (other.language, other.pieces, other.text, len(other.layers)))
        self.assertTrue(same(one.tree, other.tree))
        for inner, each in zip(one.layers, other.layers):
            self.compare_layers(inner, each)

    def compare_whole(self, desk, slow):
        self.assertEqual(desk.history(), slow.history())
        numbers = range(len(slow.all))
        for number in numbers:
            self.assertEqual((desk.children(number), desk.text_at(number), desk.replay(number)), (slow.children(number), slow.all[number][2], slow.all[number][2]))
            for other in numbers:
                self.assertEqual(desk.way(number, other), slow.way(number, other))
                self.assertEqual(runs(desk.carry_between(number, other)), runs(slow.carry_between(number, other)))

    def ask_both(self, desk, notation, last):
        grammar = PAGE_TABLE.grammar
        tree = desk.current_tree()
        self.assertEqual(desk.ask(notation), ask(grammar, read_query(grammar, notation), tree, desk.current_text()))
        nodes = [node for _, node in walk(tree)]
        self.assertEqual(desk.nodes_asked(), len({id(node) for node in nodes} - {id(node) for node in last[notation]}))
        last[notation] = nodes


class SizeTest(unittest.TestCase):
    def test_long_texts_and_many_versions(self):
        chance = random.Random(72)
        begin = time.process_time()
        desk = Desk(SHELF, "page", "a {1+2} ['x 3']\n" * 125)
        for number in range(1, 31):
            start = chance.randint(0, len(desk.current_text()))
            self.assertEqual(desk.edit([(start, start, "b")]), number)
            self.assertTrue(fits(len(desk.current_text()), [(0, 0, "")]))
        desk.revert(3)
        edits = [(k, k + 1, "7") for k in range(0, 2000, 10)]
        desk.edit(edits)
        self.assertEqual(desk.current_text(), apply(desk.text_at(31), edits))
        self.assertTrue(desk.ask("(item >> raw @a)"))
        desk.revert(32)
        self.assertEqual(desk.replay(desk.current()), desk.current_text())
        self.assertLess(time.process_time() - begin, 30)


if __name__ == "__main__":
    unittest.main()
