"""A desk as [10.1] to [10.11] describe it, which reads every text anew and keeps nothing but lists."""

from mendedtree.edits.carry import Carry, carry_of
from mendedtree.edits.edit import apply, fits, inverse
from mendedtree.edits.lists import swap_lists
from mendedtree.errors import BadMark, EditError, Entangled, NoMark, NothingToRedo, NothingToUndo, NotInPast, NoVersion
from mendedtree.inner.layer import read_layers


class SlowDesk:
    def __init__(self, shelf, language, text):
        self.shelf, self.language = shelf, language
        # Lists [parent, edits, text, marks].
        self.all = [[-1, [], text, {}]]
        self.now = 0
        # The numbers of the versions that were current, in order.
        self.log = [0]

    def check(self, number):
        if not 0 <= number < len(self.all):
            raise NoVersion(number)

    def edit(self, edits):
        text = self.all[self.now][2]
        for index in range(len(edits)):
            if not fits(len(text), edits[:index + 1]):
                raise EditError(index)
        carry = carry_of(len(text), edits)
        marks = {name: (carry.move(place, side=side), side) for name, (place, side) in self.all[self.now][3].items()}
        self.all.append([self.now, list(edits), apply(text, edits), marks])
        return self.go(len(self.all) - 1)

    def go(self, number):
        self.check(number)
        self.now = number
        self.log.append(number)
        return number

    def children(self, number):
        self.check(number)
        return [other for other in range(len(self.all)) if self.all[other][0] == number]

    def undo(self):
        if self.now == 0:
            raise NothingToUndo()
        return self.go(self.all[self.now][0])

    def redo(self, child=-1):
        children = self.children(self.now)
        if not children:
            raise NothingToRedo(self.now)
        if child == -1:
            return self.go([number for number in self.log if number in children][-1])
        if child not in children:
            raise NoVersion(child)
        return self.go(child)

    def past(self, number):
        """The version itself and those that it comes from, up to version 0."""
        found = [number]
        while found[-1] > 0:
            found.append(self.all[found[-1]][0])
        return found

    def way(self, first, second):
        self.check(first)
        self.check(second)
        up, down = self.past(first), self.past(second)
        nearest = next(number for number in up if number in down)
        return up[:up.index(nearest) + 1] + down[:down.index(nearest)][::-1]

    def carry_between(self, first, second):
        way = self.way(first, second)
        size = len(self.all[first][2])
        carry = Carry(size, size, ((0, 0, size + 1),))
        for one, other in zip(way, way[1:]):
            if self.all[other][0] == one:
                carry = carry + carry_of(len(self.all[one][2]), self.all[other][1])
            else:
                carry = carry + -carry_of(len(self.all[other][2]), self.all[one][1])
        return carry

    def revert(self, number):
        self.check(number)
        past = self.past(self.now)
        if number == 0 or number not in past:
            raise NotInPast(number)
        later = [edit for after in past[:past.index(number)][::-1] for edit in self.all[after][1]]
        moved, last = swap_lists(self.all[number][1], later)
        base = apply(self.all[self.all[number][0]][2], moved)
        made = self.edit(inverse(base, last))
        assert self.all[made][2] == base
        return made

    def set_mark(self, name, place, *, side="right"):
        if side not in ("left", "right") or not 0 <= place <= len(self.all[self.now][2]):
            raise BadMark(name)
        self.all[self.now][3][name] = (place, side)

    def drop_mark(self, name):
        if name not in self.all[self.now][3]:
            raise NoMark(name)
        del self.all[self.now][3][name]

    def marks(self):
        return sorted((name, *mark) for name, mark in self.all[self.now][3].items())

    def history(self):
        return [(number, version[0], tuple(version[1])) for number, version in enumerate(self.all)]

    def layer(self, number):
        return read_layers(self.shelf, self.language, self.all[number][2])


ERRORS = (EditError, Entangled, NoVersion, NothingToUndo, NothingToRedo, NotInPast, BadMark, NoMark)
