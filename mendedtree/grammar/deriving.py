"""What can be derived by the rules of a grammar."""

from mendedtree.grammar.chart import Chart
from mendedtree.grammar.firsts import Firsts


def empty_rules(grammar):
    """The rules from which the empty row can be derived, in order."""
    empty = Firsts(grammar).vanishing
    return [rule for rule in grammar.rules if rule in empty]


def first_kinds(grammar, symbols):
    """The kinds, in order, with which the rows of kinds that can be derived from a row of symbols begin."""
    return Firsts(grammar).kinds_of(symbols)


def derives(grammar, kinds):
    """Tells whether a row of kinds can be derived from the start rule."""
    names = {name: True for name, _ in grammar.kinds}
    return all([kind in names for kind in kinds]) and Chart(grammar).derives(kinds)
