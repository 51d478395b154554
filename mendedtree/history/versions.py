"""Versions of a text, and the ways between them."""

from mendedtree.edits.carry import carry_of
from mendedtree.errors import NoVersion


class Version:
    """A version of a text; only its marks change, and what is noted of its children."""

    def __init__(self, origin, edits, rope, layer, marked):
        # The number of the parent, or -1, and the edits that lead from there.
        self.origin = origin
        self.edits = tuple(edits)
        self.rope = rope
        self.layer = layer
        # The marks: a kept table with pairs (place, side).
        self.marked = marked
        # The numbers of the children in ascending order, and the one that was current most recently, or -1.
        self.offspring = []
        self.recent = -1


class VersionTree:
    """All versions of a text by their numbers."""

    def __init__(self):
        self._versions = []

    def total(self):
        """The number of versions."""
        return len(self._versions)

    def at(self, number):
        """The version with a number."""
        if number < 0 or number >= len(self._versions):
            raise NoVersion(number)
        return self._versions[number]

    def grow(self, version):
        """Adds a version; returns its number."""
        number = len(self._versions)
        self._versions.append(version)
        if version.origin >= 0:
            self._versions[version.origin].offspring.append(number)
        return number

    def way_down(self, number):
        """The numbers of the versions from version 0 to another one."""
        found = [number]
        while self.at(found[-1]).origin >= 0:
            found.append(self.at(found[-1]).origin)
        found.reverse()
        return found

    def way_between(self, first, second):
        """The ways (up, down) from one version to another; both have the nearest version that both come from."""
        one, other = self.way_down(first), self.way_down(second)
        shared = len([number for number, also in zip(one, other) if number == also])
        up = one[shared - 1:]
        up.reverse()
        return up, other[shared - 1:]

    def edits_along(self, numbers):
        """The edits that lead to some versions from their parents, as one list."""
        return [edit for number in numbers for edit in self.at(number).edits]

    def carry_down(self, way):
        """The carry from the text of the first version of a way down to that of the last one."""
        return carry_of(len(self.at(way[0]).layer.text), self.edits_along(way[1:]))
