"""Which rows of symbols can become empty, and which kinds can stand first in what is derived from them."""


class Firsts:
    """What the rows of kinds that can be derived from the symbols of a grammar begin with."""

    def __init__(self, grammar):
        self._kinds = [name for name, _ in grammar.kinds]
        self.vanishing = _empty_rules(grammar)
        # For each symbol the kinds that can be first, as the keys of a dictionary.
        self._first = {name: {name: True} for name in self._kinds}
        for rule in grammar.rules:
            self._first[rule] = {}
        self._fill(grammar)

    def _fill(self, grammar):
        growing = True
        while growing:
            growing = False
            for rule, symbols, _, _ in grammar.alternatives:
                first = self._first[rule]
                before = len(first)
                for symbol in self._leading(symbols):
                    first.update(dict(self._first[symbol]))
                growing = growing or len(first) > before

    def _leading(self, symbols):
        """The symbols of a row before which all others can become empty."""
        leading = []
        for symbol in symbols:
            leading.append(symbol)
            if symbol not in self.vanishing:
                break
        return leading

    def kinds_of(self, symbols):
        """The kinds that can be first in what is derived from a row of symbols, in the order of the kinds."""
        leading = self._leading(symbols)
        return [kind for kind in self._kinds if any([kind in self._first[symbol] for symbol in leading])]

    def can_be_empty(self, symbols):
        """Tells whether the empty row can be derived from a row of symbols."""
        return all([symbol in self.vanishing for symbol in symbols])


def _empty_rules(grammar):
    """The rules from which the empty row can be derived, as the keys of a dictionary."""
    empty = {}
    growing = True
    while growing:
        before = len(empty)
        for rule, symbols, _, _ in grammar.alternatives:
            if all([symbol in empty for symbol in symbols]):
                empty[rule] = True
        growing = len(empty) > before
    return empty
