"""The places of a pattern at which its sets stand, with all repetitions written out."""

from mendedtree.signs.alphabet import PLAIN


class Positions:
    """The positions of a pattern. Position 0 is the beginning; every other one is a set that matches one character.

    Sets of positions are numbers with a one at each position that they contain. A text is matched if it leads
    from the beginning, by positions each of which follows the one before it, to a position of `last`.
    """

    def __init__(self, pattern):
        self.follow = [0]
        self.last = 0
        self._chars = [""]
        empty, first, self.last = self._put(pattern)
        self._link(1, first)
        if empty:
            self.last = self.last | 1
        self.by_char = self._find_by_char()

    def _find_by_char(self):
        """For each character that a set contains, the positions of these sets."""
        having = {}
        for position, chars in enumerate(self._chars):
            for char in chars:
                having[char] = having.get(char, 0) | (1 << position)
        return {char: having[char] for char in PLAIN if char in having}

    def following(self, positions):
        """The positions that can follow one of a set."""
        found = 0
        for position in ones(positions):
            found = found | self.follow[position]
        return found

    def _link(self, before, behind):
        for position in ones(before):
            self.follow[position] = self.follow[position] | behind

    def _put(self, pattern):
        """Adds a pattern; tells whether it matches the empty text, and which of its positions can be first and last."""
        if pattern[0] == "set":
            self._chars.append(pattern[1])
            self.follow.append(0)
            position = 1 << (len(self._chars) - 1)
            return False, position, position
        if pattern[0] == "row":
            return self._put_row(pattern[1])
        if pattern[0] == "repeat":
            return self._put_repeat(pattern)
        empty, first, last = False, 0, 0
        for member in pattern[1]:
            one = self._put(member)
            empty, first, last = empty or one[0], first | one[1], last | one[2]
        return empty, first, last

    def _put_row(self, members):
        empty, first, last = True, 0, 0
        for member in members:
            one = self._put(member)
            self._link(last, one[1])
            if empty:
                first = first | one[1]
            if one[0]:
                last = last | one[2]
            else:
                last = one[2]
            empty = empty and one[0]
        return empty, first, last

    def _put_repeat(self, pattern):
        _, member, least, most = pattern
        empty, first, last = self._put(member)
        if first == 0:
            # Only the empty text is matched, however often it is repeated.
            return True, 0, 0
        if empty:
            # Pieces may be empty, so any number of pieces that are not empty will do.
            least = 0
        copies = most
        if most is None:
            copies = max(least, 1)
        newest = first
        ends = last if least <= 1 else 0
        for count in range(2, copies + 1):
            _, newest, behind = self._put(member)
            self._link(last, newest)
            last = behind
            if count >= least:
                ends = ends | last
        if most is None:
            self._link(last, newest)
        return least == 0, first, ends


def ones(number):
    """The places of the ones of a number, in ascending order."""
    places = []
    while number:
        lowest = number & -number
        places.append(lowest.bit_length() - 1)
        number = number ^ lowest
    return places
