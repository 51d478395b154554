"""Reading texts."""

from mendedtree.reading.stack import Reading


def read_text(table, text):
    """The root of the tree of a text."""
    return Reading(table, text, 0, 0, {}).read_whole()


def read_from(table, text, place, state):
    """The pairs (place, node) of what can be read from a place on in a state."""
    reading = Reading(table, text, place, state, {})
    reading.advance()
    return reading.placed()
