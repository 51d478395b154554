"""Texts as balanced trees of pieces, which are shared by the texts before and after an edit."""

from mendedtree.edits.edit import check_fits

LONGEST = 16


class Rope:
    """A text as a balanced tree of pieces."""

    def __init__(self, piece, left, right):
        self.piece = piece
        self.left = left
        self.right = right
        if left is None:
            self.size = len(piece)
            self.height = min(self.size, 1)
        else:
            self.size = left.size + right.size
            self.height = 1 + max(left.height, right.height)

    @staticmethod
    def of(text):
        """The rope of a text."""
        if text == "":
            return Rope("", None, None)
        return _tree([text[at:at + LONGEST] for at in range(0, len(text), LONGEST)])

    def whole(self):
        """The characters of the rope."""
        pieces = []
        waiting = [self]
        while waiting:
            rope = waiting.pop()
            pieces.append(rope.piece)
            if rope.left is not None:
                waiting.append(rope.right)
                waiting.append(rope.left)
        return "".join(pieces)

    def char(self, index):
        """The character at an index."""
        rope = self
        while rope.left is not None:
            if index < rope.left.size:
                rope = rope.left
            else:
                index = index - rope.left.size
                rope = rope.right
        return rope.piece[index]

    def cut(self, start, end):
        """A rope of the characters between two places."""
        if start == 0 and end == self.size:
            return self
        if start == end or self.left is None:
            return Rope(self.piece[start:end], None, None)
        split = self.left.size
        if end <= split:
            return self.left.cut(start, end)
        if start >= split:
            return self.right.cut(start - split, end - split)
        return self.left.cut(start, split).joined(self.right.cut(0, end - split))

    def joined(self, other):
        """A rope of the own text, and behind it the text of the other rope."""
        if self.size == 0:
            return other
        if other.size == 0:
            return self
        if self.height > other.height + 1:
            return _balanced(self.left, self.right.joined(other))
        if other.height > self.height + 1:
            return _balanced(self.joined(other.left), other.right)
        return Rope("", self, other)

    def edited(self, edits):
        """The rope after a list of edits."""
        check_fits(self.size, edits)
        rope = self
        for start, end, new in edits:
            behind = rope.cut(end, rope.size)
            rope = rope.cut(0, start).joined(Rope.of(new)).joined(behind)
        return rope


def _tree(pieces):
    """A rope of at least one piece."""
    if len(pieces) == 1:
        return Rope(pieces[0], None, None)
    # The heights of the halves differ by at most 1, because their numbers of pieces do.
    middle = len(pieces) // 2
    return Rope("", _tree(pieces[:middle]), _tree(pieces[middle:]))


def _balanced(left, right):
    """An inner rope of two ropes whose heights differ by at most 2."""
    if left.height > right.height + 1:
        if left.left.height >= left.right.height:
            return Rope("", left.left, Rope("", left.right, right))
        middle = left.right
        return Rope("", Rope("", left.left, middle.left), Rope("", middle.right, right))
    if right.height > left.height + 1:
        if right.right.height >= right.left.height:
            return Rope("", Rope("", left, right.left), right.right)
        middle = right.left
        return Rope("", Rope("", left, middle.left), Rope("", middle.right, right.right))
    return Rope("", left, right)


def fresh_pieces(old, new):
    """The number of the different pieces of a rope that are not pieces of an older one."""
    known = _pieces(old)
    return len([piece for piece in _pieces(new) if piece not in known])


def _pieces(rope):
    """The different pieces of a rope, as the keys of a dictionary."""
    found = {}
    # A rope may contain one inner rope very many times.
    passed = {}
    waiting = [rope]
    while waiting:
        last = waiting.pop()
        if last in passed:
            continue
        passed[last] = True
        if last.left is not None:
            waiting.append(last.left)
            waiting.append(last.right)
        elif last.size > 0:
            found[last] = True
    return found
