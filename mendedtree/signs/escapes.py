"""Characters, literals and bracketed sets as they are written in notations."""

from mendedtree.errors import PatternError
from mendedtree.signs.alphabet import PLAIN, STRAY

# What may stand behind a backslash.
LITERAL_ESCAPES = "nt\\\""
SET_ESCAPES = "nt\\]-^"


def read_char(notation, place, escapes):
    """The character that is written at a place, and the place behind it."""
    char = notation[place]
    if char == STRAY:
        raise PatternError(place, "stray")
    if char == "\\":
        escaped = notation[place + 1:place + 2]
        if escaped == "" or escaped not in escapes:
            raise PatternError(place, "escape")
        return _meant(escaped), place + 2
    if char not in PLAIN:
        raise PatternError(place, "character")
    return char, place + 1


def _meant(escaped):
    if escaped == "n":
        return "\n"
    if escaped == "t":
        return "\t"
    return escaped


def read_literal(notation, place):
    """The text of the literal whose first quote is at a place, and the place behind it."""
    chars = []
    at = place + 1
    while notation[at:at + 1] != "\"":
        if at >= len(notation):
            raise PatternError(place, "open")
        char, at = read_char(notation, at, LITERAL_ESCAPES)
        chars.append(char)
    return "".join(chars), at + 1


def write_literal(text):
    """The literal of a text."""
    return "\"" + "".join([_written(char, "\\\"") for char in text]) + "\""


def write_brackets(chars):
    """The set of some characters in brackets."""
    return "[" + "".join([_written(char, "\\]-^") for char in chars]) + "]"


def _written(char, escaped):
    if char == "\n":
        return "\\n"
    if char == "\t":
        return "\\t"
    if char in escaped:
        return "\\" + char
    return char
