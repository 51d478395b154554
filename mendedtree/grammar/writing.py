"""The written form of grammars."""

from mendedtree.signs.escapes import write_brackets
from mendedtree.signs.pattern import write_pattern


def write_grammar(grammar):
    """The written form of a grammar, in which every line ends with a newline."""
    lines = ["language " + grammar.name]
    if grammar.skip != "":
        lines.append("skip " + write_brackets(grammar.skip))
    for name, pattern in grammar.kinds:
        # The kinds of literals stand in the rules, the steps and the inner statements.
        if not name.startswith("\""):
            lines.append("kind " + name + " = " + write_pattern(pattern))
    for side, members in grammar.steps:
        lines.append(" ".join(["step", side, *members]))
    if grammar.recover:
        lines.append(" ".join(["recover", *grammar.recover]))
    if grammar.hidden:
        lines.append(" ".join(["hidden", *grammar.hidden]))
    for symbol, language in grammar.inner:
        lines.append("inner " + symbol + " " + language)
    for rule in grammar.rules:
        lines.append("rule " + rule + " =" + _write_alternatives(grammar, rule))
    return "".join([line + "\n" for line in lines])


def _write_alternatives(grammar, rule):
    written = [_write_alternative(each) for each in grammar.alternatives if each[0] == rule]
    return " |".join(written)


def _write_alternative(alternative):
    """An alternative with a space before each of its words."""
    _, symbols, labels, member = alternative
    words = [label + ":" + symbol if label != "" else symbol for symbol, label in zip(symbols, labels)]
    if member != "":
        words.append("@" + member)
    return "".join([" " + word for word in words])
