"""The table of a grammar."""

from mendedtree.signs.lexicon import Lexicon
from mendedtree.tables.sight import Sight


class Table:
    """What the states of a grammar do for each kind, and where they lead."""

    def __init__(self, grammar, actions, gotos, clashes):
        self.grammar = grammar
        self.count = len(actions)
        self.lexicon = Lexicon(grammar.kinds, grammar.skip)
        self.clashes = tuple(clashes)
        self._actions = actions
        self._gotos = gotos
        self._kinds = [name for name, _ in grammar.kinds] + ["end"]
        self._sights = {}

    def action(self, state, kind):
        """What a state does for a kind, or for `end`."""
        return self._actions[state].get(kind, ("error",))

    def goto(self, state, rule):
        """The state to which one goes along a rule, or -1."""
        return self._gotos[state].get(rule, -1)

    def behind(self, state, node):
        """The state to which one goes along the symbol of a node that begins in a state."""
        if node.symbol in self._gotos[state]:
            return self._gotos[state][node.symbol]
        return self._actions[state][node.symbol][1]

    def offers(self, state):
        """The kinds, and `end`, for which a state has an action, in their order; a shift tells its kind."""
        actions = self._actions[state]
        return {kind: _offered(kind, actions[kind]) for kind in self._kinds if kind in actions}

    def skipped(self, state):
        """The characters that are skipped where a state looks for what it offers."""
        return self.lexicon.skipped(list(self.offers(state)))

    def sight(self, state):
        """How a state sees a text."""
        if state not in self._sights:
            self._sights[state] = Sight(self.lexicon, self.offers(state))
        return self._sights[state]

    def parting(self, first, second):
        """The least row of symbols after which two states differ, and the first symbol in which they do; or None."""
        came = {(first, second): None}
        waiting = [(first, second)]
        while waiting:
            later = []
            # A list that is filled inside the loop takes its place, so the loop goes over a copy.
            for pair in list(waiting):
                symbol = self._difference(pair[0], pair[1])
                if symbol is not None:
                    return _row_to(came, pair), symbol
                for shared, one, other in self._ways(pair[0], pair[1]):
                    if one != other and (one, other) not in came:
                        came[(one, other)] = (pair, shared)
                        later.append((one, other))
            waiting = later
        return None

    def _difference(self, first, second):
        """The first symbol in which two states differ, or None."""
        for kind in self._kinds:
            one, other = self.action(first, kind), self.action(second, kind)
            if one != other and (one[0] != "shift" or other[0] != "shift"):
                return kind
        for rule in self.grammar.rules:
            if (rule in self._gotos[first]) != (rule in self._gotos[second]):
                return rule
        return None

    def _ways(self, first, second):
        """The triples (symbol, state, state) of the ways from two states that do not differ, in their order."""
        ways = []
        for kind in self._kinds:
            one, other = self.action(first, kind), self.action(second, kind)
            if one[0] == "shift":
                ways.append((kind, one[1], other[1]))
        for rule in self.grammar.rules:
            if rule in self._gotos[first]:
                ways.append((rule, self._gotos[first][rule], self._gotos[second][rule]))
        return ways


def _offered(kind, action):
    if action[0] == "shift":
        return ("shift", kind)
    return action


def _row_to(came, pair):
    """The row of symbols that leads to a pair of states."""
    row = []
    while came[pair] is not None:
        pair, symbol = came[pair]
        row.append(symbol)
    row.reverse()
    return tuple(row)
