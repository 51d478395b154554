"""The written form of trees."""

from mendedtree.errors import TreeError
from mendedtree.grammar.line import LETTERS, NAME_CHARS
from mendedtree.signs.alphabet import PLAIN
from mendedtree.trees.node import Node

DIGITS = "0123456789"
MOST_DIGITS = 9


def write_tree(node):
    """The written form of a tree."""
    words = []
    # What is still to be written, the next at the end: nodes, and None for the end of a node.
    waiting = [node]
    while waiting:
        last = waiting.pop()
        if last is None:
            words.append(")")
            continue
        if words:
            words.append(" ")
        words.append(_written(last))
        waiting.append(None)
        waiting.extend(list(reversed(last.nodes)))
    return "".join(words)


def _written(node):
    """The written form of a node up to its children."""
    numbers = [node.state, node.lead, node.width, node.look, node.alternative, node.popped]
    return "(" + " ".join([node.kind, node.symbol, *[str(number) for number in numbers]])


def read_tree(notation):
    """The tree with a written form."""
    reader = Reader(notation)
    reader.sign("(")
    # The words of the nodes that are not closed, each with the list of its children.
    opened = [(reader.words(), [])]
    while True:
        if reader.goes_on():
            opened.append((reader.words(), []))
            continue
        words, nodes = opened.pop()
        node = _node(words, nodes)
        if not opened:
            reader.finish()
            return node
        opened[-1][1].append(node)


def _node(words, nodes):
    kind, symbol, state, lead, width, look, alternative, popped = words
    return Node(
        kind, symbol, state=state, lead=lead, width=width, look=look, alternative=alternative, nodes=nodes,
        popped=popped,
    )


class Reader:
    """A notation that is read from the left to the right."""

    def __init__(self, notation):
        self._notation = notation
        self._place = 0
        # The characters that stand for themselves in literals.
        self._plain_chars = "".join([char for char in PLAIN if char not in "\n\t\\\""])

    def _char(self):
        """The next character, or an empty string at the end."""
        return self._notation[self._place:self._place + 1]

    def _pass_one_of(self, chars):
        """Passes a character that must be one of some."""
        if self._char() == "" or self._char() not in chars:
            raise TreeError(self._place)
        self._place += 1

    def sign(self, char):
        """Passes a character that must stand next."""
        self._pass_one_of(char)

    def goes_on(self):
        """Passes the end of a node, or the beginning of a child; tells whether it was the latter."""
        if self._char() == ")":
            self._place += 1
            return False
        self.sign(" ")
        self.sign("(")
        return True

    def finish(self):
        """Checks that the notation ends."""
        if self._char() != "":
            raise TreeError(self._place)

    def words(self):
        """The attributes of a node up to its children."""
        words = [self._name()]
        self.sign(" ")
        words.append(self._name())
        for signed in (True, False, False, False, True, False):
            self.sign(" ")
            words.append(self._number(signed))
        return words

    def _name(self):
        begin = self._place
        if self._char() == "\"":
            self._pass_literal()
            return self._notation[begin:self._place]
        self._pass_one_of(LETTERS)
        while self._char() != "" and self._char() in NAME_CHARS:
            self._place += 1
        return self._notation[begin:self._place]

    def _pass_literal(self):
        self.sign("\"")
        first = self._place
        # A literal has at least one character, so no quote can stand directly behind the first one.
        while self._char() != "\"" or self._place == first:
            if self._char() == "\\":
                self._place += 1
                self._pass_one_of("nt\\\"")
            else:
                self._pass_one_of(self._plain_chars)
        self.sign("\"")

    def _number(self, signed):
        if signed and self._char() == "-":
            self._place += 1
            self.sign("1")
            return -1
        begin = self._place
        self._pass_one_of(DIGITS)
        while self._char() != "" and self._char() in DIGITS:
            if self._notation[begin] == "0" or self._place - begin == MOST_DIGITS:
                raise TreeError(self._place)
            self._place += 1
        return int(self._notation[begin:self._place])
