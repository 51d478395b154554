"""The written form of tables."""

from mendedtree.errors import TableError
from mendedtree.grammar.order import ordered_symbols
from mendedtree.tables.table import Table
from mendedtree.tables.words import Words

ACTIONS = ("shift", "reduce", "accept")
REASONS = ("order", "step", "side")


def write_table(table):
    """The written form of a table: a line for each state, and then one for each clash."""
    lines = [" ".join(["state", str(state), *_state_words(table, state)]) for state in range(table.count)]
    lines.extend([" ".join(["clash", *_clash_words(clash)]) for clash in table.clashes])
    return "".join([line + "\n" for line in lines])


def _state_words(table, state):
    words = []
    for kind in table.offers(state):
        words.extend([kind, _written(table.action(state, kind))])
    for rule in table.grammar.rules:
        if table.goto(state, rule) >= 0:
            words.extend([rule, "goto", str(table.goto(state, rule))])
    return words


def _clash_words(clash):
    row, kind, candidates, chosen, reason = clash
    written = [_written(candidate) for candidate in candidates]
    return [*row, ":", kind, ":", *written, ":", _written(chosen), ":", reason]


def _written(action):
    return " ".join([str(part) for part in action])


def read_table(grammar, notation):
    """The table with a written form."""
    lines = notation.split("\n")
    # Behind the last newline there is nothing, or else a line that lacks its own.
    rest = lines.pop()
    count = len([line for line in [*lines, rest] if line.startswith("state ")])
    if count == 0:
        raise TableError(1)
    actions, gotos, clashes = [], [], []
    for number, line in enumerate(lines, start=1):
        words = Words(number, line)
        if words.one_of(("state", "clash")) == "clash":
            clashes.append(_read_clash(grammar, words))
        elif clashes or words.number_below(count) != len(actions):
            raise TableError(number)
        else:
            found = _read_state(number, words, grammar, count)
            actions.append(found[0])
            gotos.append(found[1])
    if rest != "":
        raise TableError(len(lines) + 1)
    return Table(grammar, actions, gotos, clashes)


def _read_state(number, words, grammar, count):
    """The actions and the states behind rules that a state's line tells behind its number."""
    places = {name: place for place, name in enumerate(ordered_symbols(grammar))}
    actions, gotos = {}, {}
    before = -1
    while not words.is_done():
        symbol = words.one_of(places)
        if places[symbol] <= before:
            raise TableError(number)
        before = places[symbol]
        if symbol in grammar.rules:
            words.one_of(("goto",))
            gotos[symbol] = words.number_below(count)
        else:
            actions[symbol] = _read_action(grammar, words, count)
    return actions, gotos


def _read_action(grammar, words, count):
    word = words.one_of(ACTIONS)
    if word == "shift":
        return ("shift", words.number_below(count))
    return _with_number(grammar, words, word)


def _with_number(grammar, words, word):
    """An action other than a shift; the number of an alternative stands behind its word."""
    if word == "reduce":
        return ("reduce", words.number_below(len(grammar.alternatives)))
    return (word,)


def _read_clash(grammar, words):
    """The clash that a clash's line tells behind its first word."""
    kinds = [name for name, _ in grammar.kinds]
    row = words.row_before(":", [*kinds, *grammar.rules])
    kind = words.one_of([*kinds, "end"])
    words.one_of((":",))
    candidates = [_with_number(grammar, words, words.one_of(ACTIONS))]
    word = words.one_of((*ACTIONS, ":"))
    while word != ":":
        candidates.append(_with_number(grammar, words, word))
        word = words.one_of((*ACTIONS, ":"))
    chosen = _with_number(grammar, words, words.one_of((*ACTIONS, "error")))
    words.one_of((":",))
    reason = words.one_of(REASONS)
    words.finish()
    return (tuple(row), kind, tuple(candidates), chosen, reason)
