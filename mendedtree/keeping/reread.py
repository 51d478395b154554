"""Reading edited texts with the trees of the texts before the edits."""

from mendedtree.edits.carry import carry_of
from mendedtree.edits.edit import apply
from mendedtree.keeping.usable import usable_nodes
from mendedtree.reading.stack import Reading


class Reread:
    """A new text with its tree, and what was taken and built for it."""

    def __init__(self, text, tree, carry, taken, rebuilt):
        self.text = text
        self.tree = tree
        self.carry = carry
        self.taken = tuple(taken)
        self.rebuilt = tuple(rebuilt)
        back = -carry
        self.reasons = tuple([_reason(back, place, node) for place, node in rebuilt])


def reread(table, text, tree, edits):
    """Reads the text after some edits with the tree of the text before them."""
    return reread_by(table, tree, apply(text, edits), carry_of(len(text), edits))


def reread_by(table, tree, text, carry):
    """Reads a new text with the tree of an old one."""
    reading = Reading(table, text, 0, 0, _outermost(usable_nodes(tree, carry)))
    root = reading.read_whole()
    return Reread(text, root, carry, reading.taken_nodes(), reading.built_nodes())


def _outermost(usable):
    """The first usable node for each state and new place, with its old place."""
    known = {}
    for old_place, place, node in usable:
        if (node.state, place) not in known:
            known[(node.state, place)] = (old_place, node)
    return known


def _reason(back, place, node):
    """Why a node that stands at a place had to be built, by the carry from the new text to the old one."""
    for begin, old_place, count in back:
        end = begin + count
        if begin <= place < end:
            if place + node.look <= end:
                return ("state", old_place + place - begin)
            return ("touched", end)
    return ("touched", place)
