"""Automata of several patterns."""

from mendedtree.signs.machine import Joint
from mendedtree.signs.refining import blocks_of


class Automaton:
    """The classes of alike live texts of a list of patterns, with the steps between them."""

    def __init__(self, alike, arrows, accepted, ahead, texts):
        self.count = len(arrows)
        self._alike = alike
        self._arrows = arrows
        self._accepted = accepted
        self._ahead = ahead
        self._texts = texts

    def step(self, state, char):
        """The state behind one more character, or -1."""
        return self._arrows[state].get(self._alike.get(char, ""), -1)

    def run(self, text):
        """The state of a text, or -1."""
        state = 0
        for char in text:
            state = self.step(state, char)
            if state < 0:
                return -1
        return state

    def accepted(self, state):
        """The indexes of the patterns that match the texts of a state."""
        return list(self._accepted[state])

    def ahead(self, state):
        """The indexes of the patterns that match some longer text that begins with one of a state."""
        return list(self._ahead[state])

    def least_text(self, state):
        """The least text that leads to a state."""
        return self._texts[state]

    def parting(self, first, second):
        """The least text after which different patterns match from two states, or None for equal states."""
        if first == second:
            return None
        texts = {(first, second): ""}
        waiting = [(first, second)]
        at = 0
        while True:
            pair = waiting[at]
            text = texts[pair]
            at += 1
            if self._matched(pair[0]) != self._matched(pair[1]):
                return text
            for char, behind in self._steps(pair):
                if behind not in texts:
                    texts[behind] = text + char
                    waiting.append(behind)

    def _matched(self, state):
        if state < 0:
            return []
        return self._accepted[state]

    def _steps(self, pair):
        """The pairs of different states behind one more character, as pairs (character, pair), in ascending order."""
        arrows = [self._arrows[state] if state >= 0 else {} for state in pair]
        chars = sorted(set(list(arrows[0]) + list(arrows[1])))
        steps = [(char, (arrows[0].get(char, -1), arrows[1].get(char, -1))) for char in chars]
        return [(char, behind) for char, behind in steps if behind[0] != behind[1]]


def build_automaton(patterns):
    """The automaton of a list of patterns."""
    joint = Joint(patterns)
    joint.start(list(range(len(patterns))))
    arrows = _all_arrows(joint)
    blocks = blocks_of(arrows, [tuple(matched) for matched in joint.matching])
    order, texts = _in_order(joint.chars, arrows, blocks)
    numbers = {blocks[state]: number for number, state in enumerate(order)}
    found = []
    for state in order:
        found.append({
            char: numbers[blocks[target]] for char, target in zip(joint.chars, arrows[state]) if target >= 0
        })
    accepted = [joint.matching[state] for state in order]
    ahead = [joint.coming[state] for state in order]
    return Automaton(joint.alike, found, accepted, ahead, texts)


def _all_arrows(joint):
    """For each state that can be reached, the states behind each of the different characters."""
    arrows = []
    while len(arrows) < len(joint.matching):
        state = len(arrows)
        arrows.append([joint.step(state, char) for char in joint.chars])
    return arrows


def _in_order(chars, arrows, blocks):
    """One state of each block, in the order of the least texts that lead to them, and these texts."""
    order = [0]
    texts = [""]
    known = {blocks[0]: True}
    at = 0
    while at < len(order):
        text = texts[at]
        targets = arrows[order[at]]
        at += 1
        for char, target in zip(chars, targets):
            if target >= 0 and blocks[target] not in known:
                known[blocks[target]] = True
                order.append(target)
                texts.append(text + char)
    return order, texts
