"""Texts that show that a footprint cannot be shorter."""

from mendedtree.errors import NoWitness
from mendedtree.reading.mending import Mending
from mendedtree.reading.reader import read_text
from mendedtree.reading.tracing import steps_of
from mendedtree.signs.alphabet import STRAY
from mendedtree.trees.node import has_leaf
from mendedtree.trees.paths import at_path


def witness(table, text, path, place):
    """A text that is equal before a place of the footprint of a node and does not have this node there."""
    begin, node = at_path(read_text(table, text), path)
    if begin <= place < begin + node.look:
        if node.state < 0:
            return _other_leaf(table, text, begin, place)
        # The first question that examines the place gets another answer; then another node is built.
        for step in steps_of(table, node, begin):
            found = _other_step(table, text, place, step)
            if found is not None:
                return found
    raise NoWitness(place)


def _other_leaf(table, text, at, place):
    """A text in which the scan of a skipped leaf finds something else."""
    return table.lexicon.other_scan(text, at, [*table.lexicon.names, "end"], place - at)


def _other_step(table, text, place, step):
    """A text in which a step differs; None, if the step does not examine the place."""
    at, top, action, node = step
    offers = table.offers(top)
    if place < at + table.lexicon.decide(text, at, offers)[1]:
        return table.lexicon.other(text, at, offers, place - at)
    if action[0] == "shift" and place < at + node.look:
        return table.lexicon.other_scan(text, at, list(offers), place - at)
    if action[0] == "recover":
        return _other_recovery(table, text, place, step)
    return None


def _other_recovery(table, text, place, step):
    """A text in which a recovery differs; None, if it does not examine the place."""
    at, top, _, node = step
    popped = node.nodes[:node.popped]
    states = [child.state for child in popped] + [top]
    for depth in range(len(popped), -1, -1):
        for rule in table.grammar.recover:
            target = table.goto(states[depth], rule)
            if target >= 0 and table.offers(target):
                asks = any([has_leaf(child) for child in popped[depth:]])
                return _other_try(table, text, place, (target, at, asks))
    return _longer(text, place)


def _longer(text, place):
    """A text in which a recovery differs that examines the end of the text."""
    # If the recovery has the same outcome there, it has a longer footprint.
    return text[:place] + STRAY * (len(text) + 1 - place)


def _other_try(table, text, place, attempt):
    """A text in which the first try that examines anything differs; None, if it does not examine the place."""
    target, at, asks = attempt
    mending = Mending(table, text)
    end = mending.attempt(target, at, asks)[0]
    if end < 0:
        return _longer(text, place)
    while True:
        if asks and place < at + table.sight(target).has_answer(text, at)[1]:
            return table.lexicon.other(text, at, {name: 0 for name in table.offers(target)}, place - at)
        if at == end:
            return None
        _, _, behind, far = mending.leaf_at(at)
        if place < far:
            return _other_leaf(table, text, at, place)
        at = behind
        asks = True
