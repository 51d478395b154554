"""Reading the notation of queries."""

from mendedtree.asking.tokens import WORDS, Tokens
from mendedtree.errors import QueryError
from mendedtree.signs.escapes import write_literal

DEEPEST = 12


def read_query(grammar, notation):
    """The query of a notation."""
    reader = QueryReader(grammar, notation)
    pairs = [reader.pair()]
    while not reader.is_done():
        pairs.append(reader.pair())
    return tuple(pairs)


class QueryReader:
    """Reads the notation of a query for a grammar from the left to the right."""

    def __init__(self, grammar, notation):
        self._tokens = Tokens(notation)
        self._kinds = _kinds_of(grammar)
        self._labels = {label: True for _, _, labels, _ in grammar.alternatives for label in labels}
        # The captures of the form that is being read, as keys, and the number of brackets that are open in it.
        self._captures = {}
        self._depth = 0

    def is_done(self):
        """Tells whether the notation ends here."""
        return self._tokens.next_is("end")

    def pair(self):
        """Reads a form with its tests."""
        self._captures = {}
        form = self._form()
        tests = []
        while self._tokens.peek().kind in WORDS:
            tests.append(self._test())
        return form, tuple(tests)

    def _test(self):
        word = self._tokens.read().text
        capture = self._known_capture()
        if word in ("is", "not"):
            return word, capture, self._tokens.expect("literal").text
        return word, capture, self._known_capture()

    def _known_capture(self):
        token = self._tokens.expect("@")
        if token.text not in self._captures:
            raise QueryError(token.place, "capture")
        return token.text

    def _form(self):
        if self._tokens.next_is("["):
            return self._choice()
        if self._tokens.next_is("("):
            return self._node()
        return ("node", self._kind(), (), self._capture())

    def _choice(self):
        self._enter()
        forms = [self._form(), self._form()]
        while not self._tokens.next_is("]"):
            forms.append(self._form())
        self._leave()
        return ("choice", tuple(forms), self._capture())

    def _node(self):
        self._enter()
        kind = self._kind()
        items = []
        while not self._tokens.next_is(")"):
            if self._tokens.next_is(".") and items and items[-1] == ("anchor",):
                raise QueryError(self._tokens.peek().place, "word")
            items.append(self._item())
        self._leave()
        return ("node", kind, tuple(items), self._capture())

    def _enter(self):
        token = self._tokens.read()
        if self._depth == DEEPEST:
            raise QueryError(token.place, "deep")
        self._depth += 1

    def _leave(self):
        self._tokens.read()
        self._depth -= 1

    def _kind(self):
        token = self._tokens.read()
        if token.kind == "_":
            return "_"
        if token.kind not in ("name", "literal"):
            raise QueryError(token.place, "word")
        if token.text == "":
            raise QueryError(token.place, "literal")
        name = write_literal(token.text) if token.kind == "literal" else token.text
        if name not in self._kinds:
            raise QueryError(token.place, "kind")
        return name

    def _capture(self):
        """Reads the capture behind a form; an empty string, if there is none."""
        if not self._tokens.next_is("@"):
            return ""
        token = self._tokens.read()
        if token.text in self._captures:
            raise QueryError(token.place, "capture")
        self._captures[token.text] = True
        return token.text

    def _item(self):
        if self._tokens.next_is("."):
            self._tokens.read()
            return ("anchor",)
        if self._tokens.next_is("!"):
            self._tokens.read()
            return ("absent", self._label())
        if self._tokens.next_is(">>"):
            self._tokens.read()
            return ("inside", self._form())
        return self._child()

    def _label(self):
        token = self._tokens.expect("name")
        if token.text not in self._labels:
            raise QueryError(token.place, "label")
        return token.text

    def _child(self):
        label = ""
        if self._tokens.label_comes():
            label = self._label()
            self._tokens.expect(":")
        form = self._form()
        optional = self._tokens.next_is("?")
        if optional:
            self._tokens.read()
        return ("child", label, form, optional)


def _kinds_of(grammar):
    """The kinds that forms may name, as the keys of a dictionary."""
    names = [name for name, _ in grammar.kinds]
    rules = [rule for rule in grammar.rules if rule not in grammar.hidden]
    return {name: True for name in [*names, *rules, "error", "stray", "end", "root"]}
