"""The object that describes a grammar."""


class Grammar:
    """Kinds of tokens, and the rules by which tokens are put together."""

    def __init__(self, name, *, kinds, rules, alternatives, skip="", hidden=(), recover=(), inner=(), steps=()):
        self.name = name
        self.skip = skip
        self.kinds = tuple(kinds)
        self.rules = tuple(rules)
        self.alternatives = tuple(alternatives)
        self.hidden = tuple(hidden)
        self.recover = tuple(recover)
        self.inner = tuple(inner)
        self.steps = tuple(steps)
