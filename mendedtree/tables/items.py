"""The items of a grammar and their closures."""

from mendedtree.grammar.firsts import Firsts
from mendedtree.grammar.order import ordered_symbols


class Items:
    """The items of a grammar, without their kinds, and what follows from them.

    Symbols are numbered in the order of symbols. The items of an alternative have consecutive numbers in the order
    of their positions; those of the alternative -1 are the items 0 and 1. A set of kinds (and `end`) is a number
    with a one at the number of each of them. A kernel is a dictionary with the sets of kinds of those items by which
    a closure is known: all that were moved over a symbol, or the first item of all.
    """

    def __init__(self, grammar):
        self.names = ordered_symbols(grammar)
        self.end = len(grammar.kinds)
        # For each item the number of its next symbol, or -1, and the number of its alternative.
        self._next_symbols = []
        self._alternatives = []
        # For each item the kinds that can follow its next symbol, and whether nothing can follow that.
        self._behind = []
        # For each rule the pairs (first symbol, item behind it) of its alternatives, and the empty alternatives.
        self._begins = {rule: [] for rule in range(self.end + 1, len(self.names))}
        self._empty = {rule: [] for rule in range(self.end + 1, len(self.names))}
        self._put_all(grammar)
        self._below = {rule: self._rules_below(rule) for rule in self._begins}

    def _put_all(self, grammar):
        firsts = Firsts(grammar)
        numbers = {name: number for number, name in enumerate(self.names)}
        self._put(-1, grammar.rules[:1], firsts, numbers)
        for index, (rule, symbols, _, _) in enumerate(grammar.alternatives):
            if symbols:
                self._begins[numbers[rule]].append((numbers[symbols[0]], len(self._next_symbols) + 1))
            else:
                self._empty[numbers[rule]].append(index)
            self._put(index, symbols, firsts, numbers)

    def _put(self, index, symbols, firsts, numbers):
        for place, symbol in enumerate(symbols):
            rest = symbols[place + 1:]
            kinds = sum([1 << numbers[kind] for kind in firsts.kinds_of(rest)])
            self._next_symbols.append(numbers[symbol])
            self._behind.append((kinds, firsts.can_be_empty(rest)))
            self._alternatives.append(index)
        self._next_symbols.append(-1)
        self._behind.append((0, False))
        self._alternatives.append(index)

    def _rules_below(self, rule):
        """The rules that a closure begins if it has an item before a rule.

        They are triples (rule, kinds, passes): the kinds that can follow it in any case, and whether what follows the
        rule at the top can follow it, too.
        """
        kinds, passes = {rule: 0}, {rule: True}
        waiting = [rule]
        while waiting:
            outer = waiting.pop()
            for symbol, item in self._begins[outer]:
                if symbol <= self.end:
                    continue
                own, empty = self._behind[item - 1]
                before = kinds.get(symbol), passes.get(symbol)
                kinds[symbol] = kinds.get(symbol, 0) | own | (kinds[outer] if empty else 0)
                passes[symbol] = passes.get(symbol, False) or (empty and passes[outer])
                if (kinds[symbol], passes[symbol]) != before:
                    waiting.append(symbol)
        return [(other, kinds[other], passes[other]) for other in kinds]

    def begun(self, kernel):
        """The rules whose alternatives begin in a closure, with the kinds of these items, as a dictionary."""
        asked = {}
        for item, kinds in kernel.items():
            rule = self._next_symbols[item]
            if rule > self.end:
                own, empty = self._behind[item]
                asked[rule] = asked.get(rule, 0) | own | (kinds if empty else 0)
        found = {}
        for rule, kinds in asked.items():
            for other, own, passes in self._below[rule]:
                found[other] = found.get(other, 0) | own | (kinds if passes else 0)
        return found

    def successors(self, kernel, begun):
        """The kernels of all successors of a closure by their symbols, as a dictionary."""
        found = {}
        for item, kinds in kernel.items():
            symbol = self._next_symbols[item]
            if symbol >= 0:
                found.setdefault(symbol, {})[item + 1] = kinds
        for rule, kinds in begun.items():
            for symbol, item in self._begins[rule]:
                found.setdefault(symbol, {})[item] = kinds
        return found

    def finished(self, kernel, begun):
        """The pairs (alternative, kinds) of the items without a next symbol, in ascending order."""
        found = [(self._alternatives[item], kinds) for item, kinds in kernel.items() if self._next_symbols[item] < 0]
        for rule, kinds in begun.items():
            found.extend([(index, kinds) for index in self._empty[rule]])
        return sorted(found)
