"""What survives edits, and where it then is."""

from mendedtree.edits.edit import check_fits


class Carry:
    """Which items of an old text survive in a new one, as runs (old place, new place, count)."""

    def __init__(self, old, new, runs):
        self.old = old
        self.new = new
        self.runs = runs

    def __iter__(self):
        return iter(self.runs)

    def __add__(self, other):
        return Carry(self.old, other.new, joined_runs(_through(self.runs, other.runs)))

    def __neg__(self):
        return Carry(self.new, self.old, tuple([(new, old, count) for old, new, count in self.runs]))

    def __contains__(self, place):
        return self.to_new(place) >= 0

    def to_new(self, place):
        """The new place of the item at an old place, or -1."""
        return across(self.runs, 0, place)

    def to_old(self, place):
        """The old place of the item at a new place, or -1."""
        return across(self.runs, 1, place)

    def intact(self, start, end):
        """Tells whether the items from an old place to another one survive as consecutive items."""
        if start == end:
            return True
        index = _count_up_to(self.runs, 0, start) - 1
        if index < 0:
            return False
        old, _, count = self.runs[index]
        return end <= old + count

    def move(self, place, *, side):
        """The new place behind the last surviving character before an old place, or at the first one from there on."""
        if side == "left":
            index = _count_up_to(self.runs, 0, place - 1) - 1
            if index < 0:
                return 0
            old, new, count = self.runs[index]
            return new + min(place - old, count)
        index = _count_up_to(self.runs, 0, place) - 1
        if index >= 0 and place < self.runs[index][0] + self.runs[index][2]:
            return self.runs[index][1] + place - self.runs[index][0]
        return self.runs[index + 1][1]


def across(runs, text, place):
    """The place, in the other text, of the item at a place of the old text (text 0) or the new one (text 1), or -1."""
    # The run can only be the last one that begins at or before the place.
    index = _count_up_to(runs, text, place) - 1
    if index < 0 or place >= runs[index][text] + runs[index][2]:
        return -1
    return runs[index][1 - text] + place - runs[index][text]


def _count_up_to(runs, text, place):
    """The number of the runs that begin at or before a place of the old text (text 0) or the new one (text 1)."""
    low, high = 0, len(runs)
    while low < high:
        middle = (low + high) // 2
        if runs[middle][text] <= place:
            low = middle + 1
        else:
            high = middle
    return low


def _through(first, second):
    """The runs of the items that survive two carries, one behind the other, cut in pieces."""
    pieces = []
    at = 0
    for old, new, count in first:
        # Runs of the second carry that end before this run also end before all further runs. The last one never does,
        # for it ends with the end of the text.
        while second[at][0] + second[at][2] <= new:
            at += 1
        index = at
        while index < len(second) and second[index][0] < new + count:
            begin = max(new, second[index][0])
            end = min(new + count, second[index][0] + second[index][2])
            pieces.append((old + begin - new, second[index][1] + begin - second[index][0], end - begin))
            index += 1
    return pieces


def joined_runs(pieces):
    """Runs as long as possible."""
    runs = []
    for old, new, count in pieces:
        if runs and runs[-1][0] + runs[-1][2] == old and runs[-1][1] + runs[-1][2] == new:
            runs[-1] = (runs[-1][0], runs[-1][1], runs[-1][2] + count)
        else:
            runs.append((old, new, count))
    return tuple(runs)


def carry_of(length, edits):
    """The carry of a list of edits for texts of a length."""
    check_fits(length, edits)
    carry = Carry(length, length, ((0, 0, length + 1),))
    for start, end, new in edits:
        carry = carry + _carry_of_one(carry.new, start, end, len(new))
    return carry


def _carry_of_one(length, start, end, count):
    """The carry of an edit that replaces the characters between two places by some number of characters."""
    behind = start + count
    pieces = [(0, 0, start), (end, behind, length + 1 - end)]
    return Carry(length, length - end + behind, joined_runs([piece for piece in pieces if piece[2] > 0]))
