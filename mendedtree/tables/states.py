"""The item states of a grammar."""

from mendedtree.signs.positions import ones
from mendedtree.tables.choice import Chooser
from mendedtree.tables.items import Items


class States:
    """All item states that can be reached, numbered in the order of the least rows that lead to them.

    `arrows` has for each state a dictionary of the states to which one goes along symbols, and `actions` one of the
    actions for kinds and `end`; a shift is told without the state to which it leads. Symbols are told by their
    numbers in the order of symbols, and the entries stand in this order.
    """

    def __init__(self, grammar):
        self._items = Items(grammar)
        self._chooser = Chooser(grammar)
        start = {0: 1 << self._items.end}
        self._kernels = [start]
        self._numbers = {_key(start): 0}
        # For each state the state before it on its least row, and the symbol that leads from there.
        self._came = [(-1, -1)]
        self.arrows = []
        self.actions = []
        self.clashes = []
        while len(self.arrows) < len(self._kernels):
            self._put(len(self.arrows))

    def _put(self, state):
        kernel = self._kernels[state]
        begun = self._items.begun(kernel)
        successors = self._items.successors(kernel, begun)
        actions = self._choose(state, self._candidates(successors, self._items.finished(kernel, begun)))
        arrows = {}
        for symbol in sorted(list(successors)):
            if symbol > self._items.end or actions.get(symbol) == ("shift",):
                arrows[symbol] = self._number(successors[symbol], state, symbol)
        self.actions.append(actions)
        self.arrows.append(arrows)

    def _number(self, kernel, state, symbol):
        key = _key(kernel)
        if key not in self._numbers:
            self._numbers[key] = len(self._kernels)
            self._kernels.append(kernel)
            self._came.append((state, symbol))
        return self._numbers[key]

    def _candidates(self, successors, finished):
        """The lists of the candidates by the numbers of their kinds."""
        found = {symbol: [("shift",)] for symbol in successors if symbol < self._items.end}
        accepts = False
        for alternative, kinds in finished:
            if alternative < 0:
                accepts = True
                continue
            reduction = ("reduce", alternative)
            for symbol in ones(kinds):
                found.setdefault(symbol, []).append(reduction)
        if accepts:
            found.setdefault(self._items.end, []).append(("accept",))
        return found

    def _choose(self, state, found):
        actions = {}
        for symbol in sorted(list(found)):
            candidates = found[symbol]
            kind = self._items.names[symbol]
            actions[symbol], reason = self._chooser.choose(kind, candidates)
            if len(candidates) > 1:
                self.clashes.append((self._row(state), kind, tuple(candidates), actions[symbol], reason))
        return {symbol: action for symbol, action in actions.items() if action != ("error",)}

    def _row(self, state):
        """The least row of symbols that leads to a state."""
        row = []
        while state > 0:
            state, symbol = self._came[state]
            row.append(self._items.names[symbol])
        row.reverse()
        return tuple(row)


def _key(kernel):
    return tuple(sorted(list(kernel.items())))
