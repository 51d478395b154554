"""Deterministic automata that find their states when they are needed."""

from mendedtree.signs.alphabet import PLAIN
from mendedtree.signs.positions import Positions


class Machine:
    """The automaton of one pattern. State 0 belongs to the empty text; -1 is no state."""

    def __init__(self, pattern):
        self._positions = Positions(pattern)
        self._numbers = {}
        self._sets = []
        self._ahead = []
        self._number_of(1)

    def _number_of(self, positions):
        if positions not in self._numbers:
            self._numbers[positions] = len(self._sets)
            self._sets.append(positions)
            self._ahead.append(self._positions.following(positions))
        return self._numbers[positions]

    def step(self, state, char):
        """The state behind one more character, or -1 if no text goes on so."""
        positions = self._ahead[state] & self.having(char)
        if positions == 0:
            return -1
        return self._number_of(positions)

    def having(self, char):
        """The positions whose sets contain a character, as a number."""
        return self._positions.by_char.get(char, 0)

    def matches(self, state):
        """Tells whether the pattern matches the texts of a state."""
        return self._sets[state] & self._positions.last != 0

    def goes_on(self, state):
        """Tells whether the pattern matches longer texts that begin with one of a state."""
        return self._ahead[state] != 0


class Joint:
    """The automaton of several patterns, each of which may take part or not from the beginning on."""

    def __init__(self, patterns):
        self._machines = [Machine(pattern) for pattern in patterns]
        # The state of a machine is kept together with the index of its pattern.
        self._numbers = {}
        self._parts = []
        self._arrows = []
        self.matching = []
        self.coming = []
        self.alike = self._find_alike()
        self.chars = [char for char in self.alike if self.alike[char] == char]

    def _find_alike(self):
        """For each character that a set contains, the least one of those that all patterns treat like it."""
        least = {}
        alike = {}
        for char in PLAIN:
            treated = tuple([machine.having(char) for machine in self._machines])
            if any(treated):
                alike[char] = least.setdefault(treated, char)
        return alike

    def start(self, indexes):
        """The state of the empty text, where the patterns with some indexes in ascending order take part."""
        return self._number_of(tuple([(index, 0) for index in indexes]))

    def _number_of(self, parts):
        if parts not in self._numbers:
            self._numbers[parts] = len(self._parts)
            self._parts.append(parts)
            self._arrows.append({})
            self.matching.append([index for index, state in parts if self._machines[index].matches(state)])
            self.coming.append([index for index, state in parts if self._machines[index].goes_on(state)])
        return self._numbers[parts]

    def step(self, state, char):
        """The state behind one more character, or -1 if no pattern goes on so."""
        arrows = self._arrows[state]
        if char not in arrows:
            arrows[char] = self._target(state, char)
        return arrows[char]

    def _target(self, state, char):
        moved = [(index, self._machines[index].step(part, char)) for index, part in self._parts[state]]
        parts = tuple([(index, part) for index, part in moved if part >= 0])
        if not parts:
            return -1
        return self._number_of(parts)

    def least_text(self, state, wanted):
        """The least text of at least one character that leads to a wanted state, or None; `wanted` takes a state."""
        texts = {state: ""}
        waiting = [state]
        at = 0
        while at < len(waiting):
            last = waiting[at]
            at += 1
            for char in self.chars:
                target = self.step(last, char)
                if target < 0:
                    continue
                if wanted(target):
                    return texts[last] + char
                if target not in texts:
                    texts[target] = texts[last] + char
                    waiting.append(target)
        return None
