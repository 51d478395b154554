"""Which rows of kinds can be derived by a grammar.

A dotted alternative is a pair (number of the alternative, position in it). The chart has for each place of the row
the dotted alternatives whose symbols before the position can become the kinds from some origin up to this place. The
origins are kept together in one number that has a one for each of them.
"""

from mendedtree.grammar.firsts import Firsts
from mendedtree.signs.positions import ones


class Chart:
    """What can be derived from the start rule so that it begins with the kinds of a row."""

    def __init__(self, grammar):
        self._rows = [symbols for _, symbols, _, _ in grammar.alternatives]
        self._owners = [rule for rule, _, _, _ in grammar.alternatives]
        self._start = grammar.rules[0]
        self._empty = Firsts(grammar).vanishing
        self._numbers = {rule: [] for rule in grammar.rules}
        for number, rule in enumerate(self._owners):
            self._numbers[rule].append(number)
        # For each place before the present one: the dotted alternatives that wait for a symbol, by this symbol.
        self._expecting = []

    def derives(self, kinds):
        """Tells whether a row of kinds can be derived from the start rule."""
        column = Column(0)
        self._expect(column, self._start)
        for place, kind in enumerate(kinds):
            self._complete(column)
            waiting = column.waiting(self._rows)
            self._expecting.append(waiting)
            column = Column(place + 1)
            for number, position, origins in waiting.get(kind, []):
                column.put(number, position + 1, origins)
        self._complete(column)
        return any([column.has(number, len(self._rows[number]), 0) for number in self._numbers[self._start]])

    def _expect(self, column, rule):
        """Begins the alternatives of a rule at the place of a column."""
        for number in self._numbers[rule]:
            column.put(number, 0, 1 << column.place)

    def _complete(self, column):
        """Finds all dotted alternatives of a column that follow from those that it has."""
        while column.news:
            number, position, origins = column.news.pop()
            symbols = self._rows[number]
            if position == len(symbols):
                self._finish(column, self._owners[number], origins)
            elif symbols[position] in self._numbers:
                self._expect(column, symbols[position])
                # A rule that becomes empty at this very place is passed at once.
                if symbols[position] in self._empty:
                    column.put(number, position + 1, origins)

    def _finish(self, column, rule, origins):
        """Passes a rule that can become the kinds from some origins up to the place of the column."""
        for origin in ones(origins):
            if origin == column.place:
                continue
            for number, position, earlier in self._expecting[origin].get(rule, []):
                column.put(number, position + 1, earlier)


class Column:
    """The dotted alternatives at one place, with their origins."""

    def __init__(self, place):
        self.place = place
        self.news = []
        self._origins = {}

    def put(self, number, position, origins):
        """Adds origins to a dotted alternative."""
        known = self._origins.get((number, position), 0)
        fresh = origins & ~known
        if fresh:
            self._origins[(number, position)] = known | fresh
            self.news.append((number, position, fresh))

    def has(self, number, position, origin):
        """Tells whether a dotted alternative has an origin."""
        return self._origins.get((number, position), 0) >> origin & 1 == 1

    def waiting(self, rows):
        """The dotted alternatives with a next symbol, as triples with their origins, by this symbol."""
        waiting = {}
        for dotted, origins in self._origins.items():
            number, position = dotted
            if position < len(rows[number]):
                waiting.setdefault(rows[number][position], []).append((number, position, origins))
        return waiting
