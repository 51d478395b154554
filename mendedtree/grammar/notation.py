"""The notation of grammars."""

from mendedtree.errors import GrammarError
from mendedtree.grammar.body import BodyReader
from mendedtree.grammar.checks import check
from mendedtree.grammar.draft import Draft
from mendedtree.grammar.line import Line


def read_grammar(notation):
    """The grammar of a notation."""
    draft = Draft()
    for index, text in enumerate(notation.split("\n")):
        line = Line(index + 1, text)
        if not line.is_ignored():
            _read_statement(line, draft)
    return check(draft)


def _read_statement(line, draft):
    word = line.first_word()
    if word not in READERS:
        raise GrammarError(line.number, "statement", ())
    if (word == "language") != (draft.name is None):
        raise GrammarError(line.number, "language", ())
    reader = READERS[word]
    reader(line, draft)


def _read_language(line, draft):
    draft.name = line.word()
    line.finish()


def _read_skip(line, draft):
    if draft.skip is not None:
        raise GrammarError(line.number, "double", ())
    pattern = line.pattern()
    if pattern[0] != "set":
        raise GrammarError(line.number, "pattern", ())
    draft.skip = pattern[1]


def _read_defined(line, draft):
    """Reads the name that a statement defines."""
    name = line.symbol_name()
    if name in draft.defined:
        raise GrammarError(line.number, "double", ())
    draft.defined[name] = True
    return name


def _read_kind(line, draft):
    name = _read_defined(line, draft)
    line.sign("=")
    draft.kinds.append((line.number, name, line.pattern()))


def _read_rule(line, draft):
    name = _read_defined(line, draft)
    line.sign("=")
    body = BodyReader(line, name)
    alternatives = body.read()
    draft.rules.append((line.number, name, alternatives, body.new_rules))
    for literal in body.literals:
        draft.note_literal(literal)
    draft.mentions.extend([(line.number, symbol, meaning) for symbol, meaning in body.mentions])


def _read_symbol(line, token, draft):
    """The name of a kind, a rule or a mark that a token gives."""
    if token.kind == "literal":
        draft.note_literal(token.text)
    elif token.kind != "name":
        raise GrammarError(line.number, "word", ())
    return line.allowed(token.text)


def _read_step(line, draft):
    side = line.word()
    if side not in ("left", "right", "none"):
        raise GrammarError(line.number, "word", ())
    members = []
    token = line.token()
    while token.kind != "end" or not members:
        member = _read_symbol(line, token, draft)
        if member in draft.stepped:
            raise GrammarError(line.number, "double", ())
        draft.stepped[member] = True
        members.append(member)
        token = line.token()
    draft.steps.append((line.number, side, tuple(members)))


def _read_rules(line, draft):
    """Reads the names of one or more rules."""
    names = [line.symbol_name()]
    token = line.token()
    while token.kind != "end":
        if token.kind != "name":
            raise GrammarError(line.number, "word", ())
        names.append(line.allowed(token.text))
        token = line.token()
    draft.mentions.extend([(line.number, name, "rule") for name in names])
    return names


def _read_recover(line, draft):
    draft.recover.extend(_read_rules(line, draft))


def _read_hidden(line, draft):
    draft.hidden.extend(_read_rules(line, draft))


def _read_inner(line, draft):
    token = line.token()
    symbol = _read_symbol(line, token, draft)
    if symbol in draft.inner_symbols:
        raise GrammarError(line.number, "double", ())
    draft.inner_symbols[symbol] = True
    if token.kind == "name":
        draft.mentions.append((line.number, symbol, "symbol"))
    draft.inner.append((symbol, line.word()))
    line.finish()


READERS = {
    "language": _read_language,
    "skip": _read_skip,
    "kind": _read_kind,
    "step": _read_step,
    "recover": _read_recover,
    "hidden": _read_hidden,
    "inner": _read_inner,
    "rule": _read_rule,
}
