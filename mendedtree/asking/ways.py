"""The ways in which the items of a node form are satisfied at one node.

The places where the items may go on are counted as numbers from 0 to the number of the seen children: 0 if no child
was chosen, otherwise one more than the index of the child that was chosen last. A place is tied if an anchor stands
behind the last choice, so that the next child to be chosen is the one at this index.
"""


class Ways:
    """The ways of the items of one node form, among a number of seen children."""

    def __init__(self, count):
        self._count = count
        self._items = []

    def put_anchor(self):
        """Adds an anchor."""
        self._items.append(("anchor",))

    def put_inside(self, found):
        """Adds an item that chooses no child and has the bindings of a list as its ways."""
        self._items.append(("inside", found))

    def put_child(self, found, optional):
        """Adds a child item; the list has a list of bindings for each seen child."""
        self._items.append(("child", found, optional))

    def bindings(self):
        """The bindings of all items together, in order."""
        choices, possible = self._choices()
        if not possible:
            return []
        partials = [(0, False, ())]
        for item, choice in zip(self._items, choices):
            if item[0] == "anchor":
                partials = [(place, True, pairs) for place, _, pairs in partials]
            elif item[0] == "inside":
                partials = [(place, tied, pairs + more) for place, tied, pairs in partials for more in item[1]]
            else:
                partials = _with_child(partials, item, choice)
        return [pairs for _, _, pairs in partials]

    def _choices(self):
        """A choice for each item, and whether all items together can be satisfied at all."""
        # From the last item to the first, so that no way is begun that cannot be finished.
        free = [True] * (self._count + 1)
        tied = [False] * self._count + [True]
        choices = []
        for item in reversed(self._items):
            if item[0] == "child":
                choice = Choice(item[1], free, tied)
                choices.append(choice)
                free = choice.before(False, item[2])
                tied = choice.before(True, item[2])
            else:
                choices.append(None)
            if item[0] == "anchor":
                free = tied
        choices.reverse()
        return choices, free[0]


class Choice:
    """Which children a child item can choose so that the items behind it can be satisfied, too."""

    def __init__(self, found, free, tied):
        self._free = free
        self._tied = tied
        self._good = [bool(ways) and rest for ways, rest in zip(found, free[1:])]
        self._indexes = [index for index, good in enumerate(self._good) if good]
        # For each place, how many of the indexes lie before it.
        self._passed = [0]
        for good in self._good:
            self._passed.append(self._passed[-1] + int(good))

    def children(self, place, tied):
        """The indexes of the children that can be chosen from a place."""
        if not tied:
            return self._indexes[self._passed[place]:]
        if place < len(self._good) and self._good[place]:
            return [place]
        return []

    def can_skip(self, place, tied):
        """Tells whether the items behind this one can be satisfied from a place."""
        if tied:
            return self._tied[place]
        return self._free[place]

    def before(self, tied, optional):
        """For each place, whether this item and the items behind it can be satisfied from there."""
        can = []
        for place in range(len(self._passed)):
            chosen = self._passed[place] < len(self._indexes)
            if tied:
                chosen = place < len(self._good) and self._good[place]
            can.append(chosen or (optional and self.can_skip(place, tied)))
        return can


def _with_child(partials, item, choice):
    """The partial bindings, each continued by the ways of a child item."""
    _, found, optional = item
    longer = []
    for place, tied, pairs in partials:
        for index in choice.children(place, tied):
            longer.extend([(index + 1, False, pairs + more) for more in found[index]])
        if optional and choice.can_skip(place, tied):
            longer.append((place, tied, pairs))
    return longer
