"""Going on behind an error in a text."""


class Mending:
    """What the tries of a recovery find in a text.

    All that was found is remembered, because many tries examine the same characters.
    """

    def __init__(self, table, text):
        self._table = table
        self._text = text
        self._guide = table.lexicon.guide({name: 0 for name in (*table.lexicon.names, "end")})
        self._skips = {}
        self._ends = {}

    def leaf_at(self, place):
        """What the scan of a skipped leaf finds: (kind, lead, place behind the leaf, place up to which it examines).

        At the end of the text the kind is "end".
        """
        if place not in self._skips:
            lead, kind, width, looked = self._guide.scan(self._text, place)
            if kind is None:
                kind, width = "stray", 1
            self._skips[place] = (kind, lead, place + lead + width, place + looked)
        return self._skips[place]

    def attempt(self, target, place, asks):
        """Where a try that leads to a state succeeds, or -1, and up to where it examines the text.

        `asks` tells whether it asks for an answer of the state before it skips a leaf.
        """
        if self._table.sight(target).is_blind:
            return -1, place
        if asks:
            return self._end_of(target, place)
        kind, _, behind, far = self.leaf_at(place)
        if kind == "end":
            return -1, far
        end, farther = self._end_of(target, behind)
        return end, max(far, farther)

    def _end_of(self, target, place):
        """The same for a try that asks the state at once."""
        passed = []
        at = place
        while (target, at) not in self._ends:
            answers, looked = self._table.sight(target).has_answer(self._text, at)
            kind, _, behind, far = self.leaf_at(at)
            if answers:
                self._ends[(target, at)] = (at, at + looked)
            elif kind == "end":
                self._ends[(target, at)] = (-1, far)
            else:
                passed.append((at, max(at + looked, far)))
                at = behind
        end, farthest = self._ends[(target, at)]
        for before, far in reversed(passed):
            farthest = max(farthest, far)
            self._ends[(target, before)] = (end, farthest)
        return self._ends[(target, place)]
