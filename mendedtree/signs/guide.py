"""Reading the tokens of texts where some kinds are allowed."""


class Guide:
    """What is allowed at a place, and which numbers the kinds stand for.

    `numbers` has a number for each kind of the lexicon, and `end` is that of the end of the text; -1 stands for
    what is not allowed, and for finding nothing.
    """

    def __init__(self, joint, names, skipped, numbers, end):
        self.blanks = skipped
        self._joint = joint
        self._names = names
        self._numbers = numbers
        self._end = end
        self._start = joint.start([index for index, number in enumerate(numbers) if number >= 0])
        self._others = {}

    def scan(self, text, place):
        """What a scan finds: (lead, kind, width, looked)."""
        at = self._behind_skipped(text, place)
        begin = at
        lead = at - place
        if at == len(text):
            return lead, "end" if self._end >= 0 else None, 0, lead + 1
        kind, width = None, 0
        state = self._start
        while at < len(text):
            state = self._joint.step(state, text[at])
            at += 1
            if state < 0:
                return lead, kind, width, at - place
            if self._joint.matching[state]:
                kind, width = self._names[self._joint.matching[state][0]], at - begin
            if not self._joint.coming[state]:
                return lead, kind, width, at - place
        return lead, kind, width, at - place + 1

    def decide(self, text, place):
        """The number that the text at a place stands for, and how many characters decide that: (number, looked)."""
        at = self._behind_skipped(text, place)
        if at == len(text):
            return self._end, at - place + 1
        number = -1
        state = self._start
        while at < len(text):
            state = self._joint.step(state, text[at])
            at += 1
            if state < 0:
                return number, at - place
            number = self._number_at(state, number)
            if not self._has_other(state, number):
                return number, at - place
        return number, at - place + 1

    def _behind_skipped(self, text, place):
        while place < len(text) and text[place] in self.blanks:
            place += 1
        return place

    def _number_at(self, state, otherwise):
        matched = self._joint.matching[state]
        if matched:
            return self._numbers[matched[0]]
        return otherwise

    def _has_other(self, state, number):
        """Tells whether some longer text than one of a state stands for another number."""
        key = (state, number)
        if key not in self._others:
            self._others[key] = self._least_other(state, number) is not None
        return self._others[key]

    def _least_other(self, state, number):
        if all([self._numbers[index] == number for index in self._joint.coming[state]]):
            return None
        return self._joint.least_text(state, lambda other: self._number_at(other, number) != number)

    def longer(self, text, place):
        """A text that a longer text than the one from a place on can go on with to be matched; "" if there is none."""
        state = self._state_behind(text, place)
        return self._joint.least_text(state, lambda other: bool(self._joint.matching[other])) or ""

    def to_other(self, text, place, number):
        """A text that goes on from a text so that it stands for another number at a place; "" if there is none."""
        return self._least_other(self._state_behind(text, place), number) or ""

    def _state_behind(self, text, place):
        state = self._start
        for char in text[self._behind_skipped(text, place):]:
            state = self._joint.step(state, char)
        return state
