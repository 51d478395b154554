"""The tokens of one line of the notation of grammars."""

from mendedtree.errors import GrammarError, PatternError
from mendedtree.signs.escapes import read_literal, write_literal
from mendedtree.signs.pattern import read_pattern

LETTERS = "abcdefghijklmnopqrstuvwxyz"
NAME_CHARS = "abcdefghijklmnopqrstuvwxyz0123456789_~"
SINGLE_CHARS = "=|()?*+:@"
RESERVED = ("end", "error", "stray", "root")


class Token:
    """A name, a literal, a single character, or the end of the line (which of these it is, its `kind` tells)."""

    def __init__(self, kind, text, place):
        self.kind = kind
        self.text = text
        self.place = place


class Line:
    """A line with its number, which is read from the left to the right."""

    def __init__(self, number, text):
        self.number = number
        self._text = text
        self._place = 0
        self._pass_spaces()

    def is_ignored(self):
        """Tells whether the line is empty or a comment."""
        return self._next_char() in ("", "#")

    def _next_char(self):
        return self._text[self._place:self._place + 1]

    def _pass_spaces(self):
        while self._next_char() == " ":
            self._place += 1

    def first_word(self):
        """The word with which the line begins, or an empty string."""
        return self._name()

    def _name(self):
        begin = self._place
        while self._next_char() != "" and self._next_char() in NAME_CHARS:
            self._place += 1
        return self._text[begin:self._place]

    def token(self):
        """Reads the next token. The text of a literal is the name of its kind."""
        self._pass_spaces()
        place = self._place
        char = self._next_char()
        if char == "":
            return Token("end", "", place)
        if char in LETTERS:
            return Token("name", self._name(), place)
        if char == "\"":
            return Token("literal", write_literal(self._literal()), place)
        if char in SINGLE_CHARS:
            self._place += 1
            return Token(char, char, place)
        raise GrammarError(self.number, "word", ())

    def _literal(self):
        try:
            text, self._place = read_literal(self._text, self._place)
        except PatternError:
            raise GrammarError(self.number, "pattern", ()) from None
        if text == "":
            raise GrammarError(self.number, "pattern", ())
        return text

    def operator(self):
        """Reads the operator that stands next; an empty string, if there is none."""
        self._pass_spaces()
        char = self._next_char()
        if char == "" or char not in "?*+":
            return ""
        self._place += 1
        return char

    def label_follows(self):
        """Tells whether a colon stands directly behind what was read, and passes it."""
        if self._next_char() != ":":
            return False
        self._place += 1
        return True

    def word(self):
        """Reads a name, which may be any one."""
        token = self.token()
        if token.kind != "name":
            raise GrammarError(self.number, "word", ())
        return token.text

    def symbol_name(self):
        """Reads the name of a kind, a rule or a mark."""
        return self.allowed(self.word())

    def allowed(self, name):
        """The name itself, if it may be that of a symbol or a mark."""
        if name in RESERVED:
            raise GrammarError(self.number, "reserved", ())
        return name

    def sign(self, char):
        """Reads a single character."""
        if self.token().kind != char:
            raise GrammarError(self.number, "word", ())

    def finish(self):
        """Reads the end of the line."""
        self.sign("end")

    def pattern(self):
        """Reads the pattern that is the rest of the line."""
        try:
            return read_pattern(self._text[self._place:])
        except PatternError:
            raise GrammarError(self.number, "pattern", ()) from None
