"""A text with its layers, which is edited, with all its versions."""

from mendedtree.asking.asker import Asker
from mendedtree.asking.queries import read_query
from mendedtree.edits.carry import carry_of
from mendedtree.edits.edit import apply, fits, inverse
from mendedtree.edits.lists import swap_lists
from mendedtree.edits.rope import Rope
from mendedtree.errors import BadHistory, BadMark, NoMark, NoVersion, NotInPast, NothingToRedo, NothingToUndo
from mendedtree.history.kepttable import KeptTable
from mendedtree.history.versions import Version, VersionTree
from mendedtree.inner.layer import layers_with_paths, read_layers
from mendedtree.inner.relayer import count_rebuilt, reread_layers
from mendedtree.trees.paths import count_nodes


class Desk:
    """A text of one language while it is edited."""

    def __init__(self, shelf, language, text):
        self._shelf = shelf
        self._grammar = shelf.table_of(language).grammar
        self._all = VersionTree()
        # The askers by their notations, and what the last one asked.
        self._askers = {}
        self._last_asked = 0
        layer = read_layers(shelf, language, text)
        self._now = self._all.grow(Version(-1, (), Rope.of(text), layer, KeptTable.empty()))
        self._last_built = sum([count_nodes(each.tree) for _, each in layers_with_paths(layer)])

    @staticmethod
    def restored(shelf, language, text, history):
        """The desk that has the versions of a history, which begins with a text."""
        desk = Desk(shelf, language, text)
        if not history:
            raise BadHistory(0)
        for index, (number, parent, edits) in enumerate(history):
            if number != index or not _can_follow(desk, index, parent, edits):
                raise BadHistory(index)
            if index > 0:
                desk.go(parent)
                desk.edit(edits)
        return desk

    def current(self):
        """The number of the current version."""
        return self._now

    def current_text(self):
        """The text of the current version."""
        return self.text_at(self._now)

    def current_rope(self):
        """The text of the current version as a rope."""
        return self._all.at(self._now).rope

    def current_layer(self):
        """The outermost layer of the current version."""
        return self.layer_of(self._now)

    def current_tree(self):
        """The tree of the outermost layer of the current version."""
        return self.current_layer().tree

    def versions(self):
        """The number of versions."""
        return self._all.total()

    def parent(self, number):
        """The number of the version from which a version was made, or -1."""
        return self._all.at(number).origin

    def edits_of(self, number):
        """The edits that lead to a version from its parent."""
        return list(self._all.at(number).edits)

    def children(self, number):
        """The numbers of the versions that were made from a version."""
        return list(self._all.at(number).offspring)

    def text_at(self, number):
        """The text of a version."""
        return self.layer_of(number).text

    def layer_of(self, number):
        """The outermost layer of a version."""
        return self._all.at(number).layer

    def edit(self, edits):
        """Applies a list of edits to the current text; returns the number of the new version."""
        before = self._all.at(self._now)
        relayer = reread_layers(self._shelf, before.layer, edits)
        marked = _moved_marks(before.marked, carry_of(len(before.layer.text), edits))
        rope = before.rope.edited(edits)
        number = self._all.grow(Version(self._now, edits, rope, relayer.layer, marked))
        self._last_built = count_rebuilt(relayer)
        self._make_current(number)
        return number

    def _make_current(self, number):
        self._now = number
        origin = self._all.at(number).origin
        if origin >= 0:
            before = self._all.at(origin)
            before.recent = number

    def undo(self):
        """Makes the parent current; returns its number."""
        origin = self.parent(self._now)
        if origin < 0:
            raise NothingToUndo()
        return self.go(origin)

    def redo(self, child=-1):
        """Makes a child of the current version current, the last one that was if none is given; returns its number."""
        version = self._all.at(self._now)
        if not version.offspring:
            raise NothingToRedo(self._now)
        if child == -1:
            child = version.recent
        elif child not in version.offspring:
            raise NoVersion(child)
        return self.go(child)

    def go(self, number):
        """Makes a version current; returns its number."""
        self._all.at(number)
        self._make_current(number)
        self._last_built = 0
        return number

    def built(self):
        """The number of nodes that were built by the last change, or at the beginning."""
        return self._last_built

    def way(self, first, second):
        """The numbers of the versions from one version to another along parents and children."""
        up, down = self._all.way_between(first, second)
        return up + down[1:]

    def carry_between(self, first, second):
        """The carry from the text of one version to that of another along the way between them."""
        up, down = self._all.way_between(first, second)
        up.reverse()
        return -self._all.carry_down(up) + self._all.carry_down(down)

    def revert(self, number):
        """Takes back the edits of one version, and keeps those that came after it; returns the number of the result."""
        version = self._all.at(number)
        past = self._all.way_down(self._now)
        if number == 0 or number not in past:
            raise NotInPast(number)
        later = self._all.edits_along(past[past.index(number) + 1:])
        moved, last = swap_lists(version.edits, later)
        base = apply(self.text_at(version.origin), moved)
        return self.edit(inverse(base, last))

    def set_mark(self, name, place, *, side="right"):
        """Sets a mark of the current version."""
        if place < 0 or place > len(self.current_text()) or side not in ("left", "right"):
            raise BadMark(name)
        version = self._all.at(self._now)
        version.marked = version.marked.put(name, (place, side))

    def drop_mark(self, name):
        """Removes a mark of the current version."""
        version = self._all.at(self._now)
        if name not in version.marked:
            raise NoMark(name)
        version.marked = version.marked.without(name)

    def marks(self):
        """The marks of the current version as triples (name, place, side)."""
        return [(name, place, side) for name, (place, side) in self._all.at(self._now).marked.pairs()]

    def ask(self, notation):
        """The answers of a query in the tree of the current version."""
        if notation not in self._askers:
            self._askers[notation] = Asker(self._grammar, read_query(self._grammar, notation))
        asker = self._askers[notation]
        answers = asker.search(self.current_tree(), self.current_text())
        self._last_asked = asker.asked
        return answers

    def nodes_asked(self):
        """The number of nodes that were asked by the last call of `ask`."""
        return self._last_asked

    def replay(self, number):
        """The text that results from the edits of all versions on the way from version 0 to another one."""
        return apply(self.text_at(0), self._all.edits_along(self._all.way_down(number)))

    def history(self):
        """The triples (number, parent, edits) of all versions."""
        versions = [self._all.at(number) for number in range(self.versions())]
        return [(number, version.origin, version.edits) for number, version in enumerate(versions)]


def _can_follow(desk, index, parent, edits):
    """Tells whether edits of the text of a parent can make the version with some index on a desk."""
    if index == 0:
        return parent == -1 and not edits
    return 0 <= parent < index and fits(len(desk.text_at(parent)), edits)


def _moved_marks(marked, carry):
    """A table of marks behind the edits of a carry."""
    moved = marked
    for name, (place, side) in marked.pairs():
        behind = carry.move(place, side=side)
        if behind != place:
            moved = moved.put(name, (behind, side))
    return moved
