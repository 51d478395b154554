"""Edits of texts: triples (start, end, new)."""

from mendedtree.errors import EditError


def fits(length, edits):
    """Tells whether a list of edits fits texts of a length."""
    return _first_misfit(length, edits) is None


def _first_misfit(length, edits):
    """The index of the first edit that does not fit, or None."""
    for index, (start, end, new) in enumerate(edits):
        if start < 0 or end < start or end > length:
            return index
        length = length + len(new) - (end - start)
    return None


def check_fits(length, edits):
    """Checks that a list of edits fits texts of a length."""
    index = _first_misfit(length, edits)
    if index is not None:
        raise EditError(index)


def apply(text, edits):
    """The text after all edits."""
    check_fits(len(text), edits)
    for start, end, new in edits:
        text = text[:start] + new + text[end:]
    return text


def inverse(text, edits):
    """The list of edits that turns the text after the edits back into the text."""
    check_fits(len(text), edits)
    back = []
    for start, end, new in edits:
        back.append((start, start + len(new), text[start:end]))
        text = text[:start] + new + text[end:]
    back.reverse()
    return back
