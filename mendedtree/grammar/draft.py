"""What the statements of the notation of a grammar say."""

from mendedtree.grammar.grammar import Grammar
from mendedtree.signs.escapes import read_literal
from mendedtree.signs.pattern import read_pattern


class Draft:
    """The statements of a grammar that were read, with the numbers of their lines."""

    def __init__(self):
        self.name = None
        self.skip = None
        # Kinds as triples (line, name, pattern), rules as quadruples (line, name, alternatives, new rules),
        # steps as triples (line, side, members).
        self.kinds = []
        self.rules = []
        self.steps = []
        self.recover = []
        self.hidden = []
        self.inner = []
        # What was seen: the texts of the literals by the names of their kinds; the names that kind and rule
        # statements define, the members of steps and the symbols of inner statements, as keys of dictionaries.
        self.literals = {}
        self.defined = {}
        self.stepped = {}
        self.inner_symbols = {}
        # Triples (line, name, what it must be), in the order of the notation.
        self.mentions = []

    def note_literal(self, name):
        """Notes the name of the kind of a literal."""
        self.literals[name] = read_literal(name, 0)[0]

    def is_kind(self, name):
        """Tells whether a name is that of a kind."""
        return name in self.literals or name in [kind for _, kind, _ in self.kinds]

    def rule_lines(self):
        """The numbers of the lines of all rules, new ones included, by their names in order."""
        lines = {}
        for line, rule, _, new_rules in self.rules:
            lines[rule] = line
            for name, _ in new_rules:
                lines[name] = line
        return lines

    def to_grammar(self):
        """The grammar that the statements describe."""
        return Grammar(
            self.name, kinds=self._all_kinds(), rules=list(self.rule_lines()), alternatives=self._all_alternatives(),
            skip=self.skip or "", hidden=self._all_hidden(), recover=list({name: True for name in self.recover}),
            inner=self.inner, steps=[(side, members) for _, side, members in self.steps],
        )

    def _all_kinds(self):
        literals = sorted([(text, name) for name, text in self.literals.items()])
        kinds = [(name, read_pattern(name)) for _, name in literals]
        return kinds + [(name, pattern) for _, name, pattern in self.kinds]

    def _all_alternatives(self):
        found = []
        for _, rule, alternatives, new_rules in self.rules:
            for name, rows in [(rule, alternatives)] + new_rules:
                found.extend([(name,) + row for row in rows])
        return found

    def _all_hidden(self):
        hidden = {name: True for name in self.hidden}
        for _, _, _, new_rules in self.rules:
            for name, _ in new_rules:
                hidden[name] = True
        return [name for name in self.rule_lines() if name in hidden]
