"""The pieces of a text from which the texts of inner layers are made.

Pieces are pairs (start, end) of places of the text around. In the text of the inner layer a seam, which is a newline,
stands between two of them.
"""

from mendedtree.edits.carry import Carry, across, joined_runs
from mendedtree.trees.node import placed_nodes

def inner_texts(shelf, grammar, tree, text):
    """The triples (language, pieces, text) of the inner languages of the tree of a text."""
    found = []
    for language in {name: True for _, name in grammar.inner if name in shelf.languages}:
        pieces = _pieces_in(tree, {symbol: True for symbol, name in grammar.inner if name == language})
        if pieces:
            found.append((language, pieces, "\n".join([text[start:end] for start, end in pieces])))
    return found


def _pieces_in(tree, symbols):
    """The pieces of the outermost nodes that have one of the symbols and are no error nodes."""
    found = []
    waiting = [(0, tree)]
    while waiting:
        place, node = waiting.pop()
        if node.kind == "error" or node.symbol not in symbols:
            waiting.extend(placed_nodes(node.nodes, place))
        elif node.lead < node.width:
            found.append((place + node.lead, place + node.width))
    return tuple(found)


def runs_of(pieces):
    """The runs (place in the text around, index in the inner text, count) of the characters of pieces."""
    runs = []
    index = 0
    for start, end in pieces:
        runs.append((start, index, end - start))
        index = index + end - start + 1
    return runs


def pieces_carry(old, new, carry):
    """The carry from the inner text of old pieces to that of new ones, for the carry of the texts around them."""
    new_runs = runs_of(new)
    size = new_runs[-1][1] + new_runs[-1][2]
    # For each item of the old inner text its new index, or -1.
    moved = []
    last = -1
    for start, end in old:
        for place in range(start, end):
            last = across(new_runs, 0, carry.to_new(place))
            moved.append(last)
        survives = 0 <= last < size - 1 and across(new_runs, 1, last + 1) < 0
        moved.append(last + 1 if survives else -1)
    # What stands behind the last piece is not a seam, but the end.
    moved[-1] = size
    runs = [(index, place, 1) for index, place in enumerate(moved) if place >= 0]
    return Carry(len(moved) - 1, size, joined_runs(runs))
