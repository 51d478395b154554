"""Building the table of a grammar."""

from mendedtree.grammar.order import ordered_symbols
from mendedtree.signs.refining import blocks_of
from mendedtree.tables.states import States
from mendedtree.tables.table import Table


def build_table(grammar):
    """The table of a grammar."""
    states = States(grammar)
    names = ordered_symbols(grammar)
    blocks = _blocks_of(states)
    # A state of the table is numbered when the first of its item states comes.
    numbers = {}
    chosen = []
    for state, block in enumerate(blocks):
        if block not in numbers:
            numbers[block] = len(numbers)
            chosen.append(state)
    leads = [numbers[block] for block in blocks]
    actions = [_named_actions(names, states.actions[state], states.arrows[state], leads) for state in chosen]
    gotos = [_named_gotos(names, states.actions[state], states.arrows[state], leads) for state in chosen]
    return Table(grammar, actions, gotos, states.clashes)


def _blocks_of(states):
    """The number of a block for each item state; the states of one block are alike."""
    marks = {}
    found = []
    for actions, arrows in zip(states.actions, states.arrows):
        mark = (tuple(actions.items()), tuple(arrows))
        found.append(marks.setdefault(mark, len(marks)))
    # States with equal marks have arrows along the same symbols, in the same order.
    return blocks_of([list(arrows.values()) for arrows in states.arrows], found)


def _named_actions(names, actions, arrows, leads):
    found = {}
    for symbol, action in actions.items():
        if action == ("shift",):
            found[names[symbol]] = ("shift", leads[arrows[symbol]])
        else:
            found[names[symbol]] = action
    return found


def _named_gotos(names, actions, arrows, leads):
    return {names[symbol]: leads[state] for symbol, state in arrows.items() if symbol not in actions}
