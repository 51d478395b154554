"""Reading the bodies of rules, with the expansion of their groups."""

from mendedtree.errors import GrammarError

DEEPEST = 12


class Group:
    """The alternatives of a body or of a group while they are read; each is a triple (symbols, labels, member)."""

    def __init__(self):
        self.alternatives = []
        self.member = ""
        self._symbols = []
        self._labels = []

    def put_symbol(self, symbol, label):
        """Adds a symbol to the alternative that is being read."""
        self._symbols.append(symbol)
        self._labels.append(label)

    def end_alternative(self):
        """Ends the alternative that is being read, and begins the next one."""
        self.alternatives.append((tuple(self._symbols), tuple(self._labels), self.member))
        self.member = ""
        self._symbols = []
        self._labels = []


class BodyReader:
    """Reads the body of a rule from a line."""

    def __init__(self, line, rule):
        self._line = line
        self._rule = rule
        self._groups = [Group()]
        # The new rules as pairs (name, alternatives), the names that occur as pairs (name, what it must be),
        # and the literals.
        self.new_rules = []
        self.mentions = []
        self.literals = []

    def read(self):
        """The alternatives of the body."""
        token = self._line.token()
        while token.kind != "end":
            self._take(token)
            token = self._line.token()
        if len(self._groups) > 1:
            raise GrammarError(self._line.number, "word", ())
        self._groups[0].end_alternative()
        return self._groups[0].alternatives

    def _take(self, token):
        group = self._groups[-1]
        inside = len(self._groups) > 1
        if token.kind == "|":
            group.end_alternative()
        elif group.member != "":
            raise GrammarError(self._line.number, "word", ())
        elif token.kind == "(":
            self._begin_group()
        elif token.kind == ")" and inside:
            self._end_group()
        elif token.kind == "@" and not inside:
            group.member = self._member(token.place)
        elif token.kind in ("name", "literal"):
            self._item(token)
        else:
            raise GrammarError(self._line.number, "word", ())

    def _begin_group(self):
        if len(self._groups) > DEEPEST:
            raise GrammarError(self._line.number, "deep", ())
        self._groups.append(Group())

    def _end_group(self):
        group = self._groups.pop()
        group.end_alternative()
        self._put_new_rule(group.alternatives, self._line.operator())

    def _item(self, token):
        label = ""
        if token.kind == "name" and self._line.label_follows():
            label = token.text
            token = self._line.token()
        self._note(token, "symbol")
        operator = self._line.operator()
        if operator == "":
            self._groups[-1].put_symbol(token.text, label)
        else:
            self._put_new_rule([((token.text,), (label,), "")], operator)

    def _member(self, place):
        """Reads the member behind an @ at a place."""
        token = self._line.token()
        if token.place != place + 1:
            raise GrammarError(self._line.number, "word", ())
        self._note(token, "member")
        return token.text

    def _note(self, token, meaning):
        """Notes a name or a literal."""
        if token.kind == "literal":
            self.literals.append(token.text)
        elif token.kind != "name" or self._line.label_follows():
            raise GrammarError(self._line.number, "word", ())
        else:
            self.mentions.append((self._line.allowed(token.text), meaning))

    def _put_new_rule(self, alternatives, operator):
        """Makes a new rule of the alternatives of a group, and adds it as a symbol."""
        name = self._rule + "~" + str(len(self.new_rules) + 1)
        empty = [((), (), "")]
        again = [((name,) + symbols, ("",) + labels, "") for symbols, labels, _ in alternatives]
        if operator == "?":
            alternatives = empty + alternatives
        elif operator == "*":
            alternatives = empty + again
        elif operator == "+":
            alternatives = alternatives + again
        self.new_rules.append((name, alternatives))
        self._groups[-1].put_symbol(name, "")
