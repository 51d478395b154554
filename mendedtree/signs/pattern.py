"""The notation of patterns: reading and writing."""

from mendedtree.errors import PatternError
from mendedtree.signs.alphabet import PLAIN, in_order
from mendedtree.signs.escapes import SET_ESCAPES, read_char, read_literal, write_brackets, write_literal

DEEPEST = 12
DIGITS = "0123456789"


class Level:
    """What was read since a parenthesis was opened, or since the beginning."""

    def __init__(self, place):
        self.place = place
        self.rows = []
        self.pieces = []


def read_pattern(notation):
    """The pattern of a notation."""
    levels = [Level(-1)]
    place = _behind_spaces(notation, 0)
    while place < len(notation):
        place = _behind_spaces(notation, _read_sign(notation, place, levels))
    level = levels[-1]
    if not level.pieces:
        raise PatternError(len(notation), "empty")
    if len(levels) > 1:
        raise PatternError(level.place, "open")
    return _pattern_of(level)


def _behind_spaces(notation, place):
    while notation[place:place + 1] == " ":
        place += 1
    return place


def _read_sign(notation, place, levels):
    """Reads one atom, suffix, bar or parenthesis; returns the place behind it."""
    char = notation[place]
    if char == "(":
        if len(levels) > DEEPEST:
            raise PatternError(place, "deep")
        levels.append(Level(place))
        return place + 1
    if char in "|)":
        return _end_row(notation, place, levels)
    if char in "?*+{":
        return _read_suffix(notation, place, levels[-1])
    piece, end = _read_atom(notation, place)
    levels[-1].pieces.append(piece)
    return end


def _end_row(notation, place, levels):
    level = levels[-1]
    if not level.pieces:
        raise PatternError(place, "empty")
    if notation[place] == "|":
        level.rows.append(_row(level.pieces))
        level.pieces = []
    elif len(levels) == 1:
        raise PatternError(place, "character")
    else:
        levels.pop()
        levels[-1].pieces.append(_pattern_of(level))
    return place + 1


def _pattern_of(level):
    return _choice(level.rows + [_row(level.pieces)])


def _row(pieces):
    members = _merged("row", pieces)
    if len(members) == 1:
        return members[0]
    return ("row", tuple(members))


def _choice(rows):
    members = _merged("choice", rows)
    if len(members) == 1:
        return members[0]
    return ("choice", tuple(members))


def _merged(word, patterns):
    """The patterns, with the members of those that begin with the word in their places."""
    members = []
    for pattern in patterns:
        if pattern[0] == word:
            members.extend(pattern[1])
        else:
            members.append(pattern)
    return members


def _read_suffix(notation, place, level):
    """Applies a suffix to the last piece; returns the place behind the suffix."""
    if not level.pieces:
        raise PatternError(place, "character")
    char = notation[place]
    least, most, end = 0, None, place + 1
    if char == "?":
        most = 1
    elif char == "+":
        least = 1
    elif char == "{":
        least, most, end = _read_count(notation, place)
    level.pieces[-1] = ("repeat", level.pieces[-1], least, most)
    return end


def _read_count(notation, place):
    end = notation.find("}", place)
    digits = []
    if end >= 0:
        digits = notation[place + 1:end].split(",")
    if len(digits) not in (1, 2) or not all([len(digit) == 1 and digit in DIGITS for digit in digits]):
        raise PatternError(place, "count")
    least = int(digits[0])
    most = int(digits[-1])
    if least > most or most == 0:
        raise PatternError(place, "count")
    return least, most, end + 1


def _read_atom(notation, place):
    """The pattern of an atom that is no parenthesis, and the place behind it."""
    char = notation[place]
    if char == "\"":
        text, end = read_literal(notation, place)
        return _row([("set", sign) for sign in text]), end
    if char == "[":
        return _read_set(notation, place)
    if char == ".":
        return ("set", PLAIN.replace("\n", "")), place + 1
    raise PatternError(place, "character")


def _read_set(notation, place):
    at = place + 1
    inverted = notation[at:at + 1] == "^"
    if inverted:
        at += 1
    chars = ""
    while notation[at:at + 1] != "]":
        if at >= len(notation):
            raise PatternError(place, "open")
        more, at = _read_member(notation, place, at)
        chars = chars + more
    if inverted:
        chars = "".join([char for char in PLAIN if char not in chars])
    if chars == "":
        raise PatternError(place, "empty")
    return ("set", in_order(chars)), at + 1


def _read_member(notation, opened, place):
    """The characters of one member of a set, and the place behind it."""
    if notation[place] == "-":
        raise PatternError(place, "character")
    first, sign = read_char(notation, place, SET_ESCAPES)
    if notation[sign:sign + 1] != "-":
        return first, sign
    following = notation[sign + 1:sign + 2]
    if following == "":
        raise PatternError(opened, "open")
    if following in "]-":
        raise PatternError(sign, "character")
    last, end = read_char(notation, sign + 1, SET_ESCAPES)
    if last < first:
        raise PatternError(place, "range")
    return "".join([char for char in PLAIN if first <= char <= last]), end


def write_pattern(pattern):
    """The written form of a pattern."""
    if pattern[0] == "set":
        return _write_set(pattern[1])
    if pattern[0] == "row":
        return _write_row(pattern[1])
    if pattern[0] == "choice":
        return " | ".join([write_pattern(member) for member in pattern[1]])
    return _write_repeat(pattern)


def _write_set(chars):
    if len(chars) == 1:
        return write_literal(chars)
    return write_brackets(chars)


def _is_single(pattern):
    return pattern[0] == "set" and len(pattern[1]) == 1


def _write_row(members):
    words = []
    literal = ""
    for member in members:
        if _is_single(member):
            literal = literal + member[1]
            continue
        if literal != "":
            words.append(write_literal(literal))
            literal = ""
        words.append(_write_member(member))
    if literal != "" or not members:
        words.append(write_literal(literal))
    return " ".join(words)


def _write_member(member):
    if member[0] == "choice":
        return "(" + write_pattern(member) + ")"
    return write_pattern(member)


def _write_repeat(pattern):
    _, member, least, most = pattern
    written = write_pattern(member)
    if not _stands_alone(member):
        written = "(" + written + ")"
    return written + _write_bounds(least, most)


def _stands_alone(member):
    """Tells whether a suffix can stand directly behind the written form."""
    if member[0] == "set":
        return True
    return member[0] == "row" and all([_is_single(part) for part in member[1]])


def _write_bounds(least, most):
    if (least, most) == (0, 1):
        return "?"
    if (least, most) == (0, None):
        return "*"
    if (least, most) == (1, None):
        return "+"
    if least == most:
        return "{" + str(least) + "}"
    return "{" + str(least) + "," + str(most) + "}"
