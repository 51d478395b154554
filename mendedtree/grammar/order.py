"""The order of the symbols of a grammar."""


def ordered_symbols(grammar):
    """The kinds, `end` and the rules of a grammar, in the order of symbols."""
    return [name for name, _ in grammar.kinds] + ["end"] + list(grammar.rules)
