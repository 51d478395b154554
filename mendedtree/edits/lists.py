"""Lists of edits in other forms: as few edits as possible, and edits in another order."""

from mendedtree.edits.carry import carry_of
from mendedtree.edits.edit import apply
from mendedtree.errors import Entangled


def compact(text, edits):
    """The edits with the same result and the same carry that stand apart from each other, the last one first."""
    result = apply(text, edits)
    found = []
    old, new = 0, 0
    for old_place, new_place, count in carry_of(len(text), edits):
        # Between two runs there is always something to replace, but not before the first one.
        if old < old_place or new < new_place:
            found.append((old, old_place, result[new:new_place]))
        old, new = old_place + count, new_place + count
    found.reverse()
    return found


def swap(first, second):
    """The second edit and then the first one, in the forms that have the same result together."""
    begin, end, text = first
    later_begin, later_end, later_text = second
    if later_end <= begin:
        moved = len(later_text) - (later_end - later_begin)
        return second, (begin + moved, end + moved, text)
    if later_begin >= begin + len(text):
        moved = end - begin - len(text)
        return (later_begin + moved, later_end + moved, later_text), first
    raise Entangled(first, second)


def swap_lists(first, second):
    """The second list and then the first one, in the forms that have the same result together."""
    behind = list(first)
    ahead = []
    for edit in second:
        moved, behind = _moved_ahead(behind, edit)
        ahead.append(moved)
    return ahead, behind


def _moved_ahead(edits, edit):
    """An edit as it stands ahead of the edits behind which it stood, and these edits behind it."""
    behind = []
    for before in reversed(edits):
        edit, after = swap(before, edit)
        behind.append(after)
    behind.reverse()
    return edit, behind
