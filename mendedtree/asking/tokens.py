"""The tokens of the notation of queries."""

from mendedtree.errors import PatternError, QueryError
from mendedtree.grammar.line import LETTERS, NAME_CHARS, Token
from mendedtree.signs.escapes import read_literal

SINGLE_CHARS = "_()[].!:?"
WORDS = ("#is", "#not", "#same", "#differ")


class Tokens:
    """The tokens of a notation, which are read from the left to the right.

    Names, literals, captures and the end of the notation have the kinds "name", "literal", "@" and "end"; for all
    other tokens the kind is the token itself.
    """

    def __init__(self, notation):
        self._notation = notation
        # The place behind the token that was read last, the next token, and the place behind it. The next token is
        # found as late as possible, because its faults come behind those of the token before it.
        self._place = 0
        self._next = None
        self._end = 0

    def peek(self):
        """The next token, which is not read by this."""
        if self._next is None:
            self._next, self._end = _token_at(self._notation, _behind_chars(self._notation, self._place, " \n"))
        return self._next

    def next_is(self, kind):
        """Tells whether the next token is of some kind."""
        return self.peek().kind == kind

    def label_comes(self):
        """Tells whether the next token is a name with a colon directly behind it."""
        return self.next_is("name") and self._notation[self._end:self._end + 1] == ":"

    def read(self):
        """Reads the next token."""
        token = self.peek()
        self._next = None
        self._place = self._end
        return token

    def expect(self, kind):
        """Reads the next token, which must be of some kind."""
        token = self.read()
        if token.kind != kind:
            raise QueryError(token.place, "word")
        return token


def _token_at(notation, place):
    """The token that begins at a place, and the place behind it."""
    char = notation[place:place + 1]
    if char == "":
        return Token("end", "", place), place
    if char in SINGLE_CHARS:
        return Token(char, char, place), place + 1
    if char == "\"":
        return _literal_at(notation, place)
    if char in LETTERS:
        end = _behind_chars(notation, place, NAME_CHARS)
        return Token("name", notation[place:end], place), end
    if notation[place:place + 2] == ">>":
        return Token(">>", ">>", place), place + 2
    if char == "@" and _behind_chars(notation, place + 1, LETTERS) > place + 1:
        end = _behind_chars(notation, place + 1, NAME_CHARS)
        return Token("@", notation[place + 1:end], place), end
    end = _behind_chars(notation, place + 1, LETTERS)
    if notation[place:end] not in WORDS:
        raise QueryError(place, "word")
    return Token(notation[place:end], notation[place + 1:end], place), end


def _literal_at(notation, place):
    try:
        text, end = read_literal(notation, place)
    except PatternError:
        raise QueryError(place, "literal") from None
    return Token("literal", text, place), end


def _behind_chars(notation, place, chars):
    """The place behind the longest stretch of some characters."""
    while place < len(notation) and notation[place] in chars:
        place += 1
    return place
