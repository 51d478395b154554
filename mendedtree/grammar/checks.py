"""Checking a grammar as a whole."""

from mendedtree.errors import GrammarError
from mendedtree.grammar.firsts import Firsts
from mendedtree.grammar.rings import is_hidden_left, left_arrows, ring_of, single_arrows
from mendedtree.signs.matching import matches_empty


def check(draft):
    """The grammar of a draft, if it has no fault."""
    if draft.name is None:
        raise GrammarError(0, "language", ())
    if not draft.rules:
        raise GrammarError(0, "rules", ())
    lines = draft.rule_lines()
    _check_names(draft, lines)
    _check_steps(draft, lines)
    _check_kinds(draft)
    _check_new_rules(draft)
    grammar = draft.to_grammar()
    _check_productive(grammar, lines)
    _check_reachable(grammar, lines)
    _check_rings(grammar, lines)
    return grammar


def _check_names(draft, rules):
    for line, name, meaning in draft.mentions:
        known = name in rules
        if meaning == "symbol":
            known = known or draft.is_kind(name)
        elif meaning == "member":
            known = draft.is_kind(name) or name in draft.stepped
        if not known:
            raise GrammarError(line, "unknown", (name,))


def _check_steps(draft, rules):
    for line, _, members in draft.steps:
        for member in members:
            if member in rules:
                raise GrammarError(line, "step", (member,))


def _check_kinds(draft):
    for line, name, pattern in draft.kinds:
        if matches_empty(pattern):
            raise GrammarError(line, "empty", (name,))


def _check_new_rules(draft):
    for line, _, _, new_rules in draft.rules:
        for name, _ in new_rules:
            if name in draft.defined:
                raise GrammarError(line, "double", (name,))


def _check_productive(grammar, lines):
    productive = {name: True for name, _ in grammar.kinds}
    before = -1
    while len(productive) > before:
        before = len(productive)
        for rule, symbols, _, _ in grammar.alternatives:
            if all([symbol in productive for symbol in symbols]):
                productive[rule] = True
    for rule in grammar.rules:
        if rule not in productive:
            raise GrammarError(lines[rule], "unproductive", (rule,))


def _check_reachable(grammar, lines):
    reached = {grammar.rules[0]: True}
    before = 0
    while len(reached) > before:
        before = len(reached)
        for rule, symbols, _, _ in grammar.alternatives:
            if rule in reached:
                reached.update({symbol: True for symbol in symbols})
    for rule in grammar.rules:
        if rule not in reached:
            raise GrammarError(lines[rule], "unreachable", (rule,))


def _check_rings(grammar, lines):
    firsts = Firsts(grammar)
    arrows = single_arrows(grammar, firsts)
    for rule in grammar.rules:
        names = ring_of(arrows, rule)
        if names:
            raise GrammarError(lines[rule], "ring", names)
    arrows = left_arrows(grammar, firsts)
    for rule in grammar.rules:
        if is_hidden_left(arrows, rule):
            raise GrammarError(lines[rule], "hidden left", (rule,))
