"""Comparing two patterns by the texts that they match."""

from mendedtree.signs.machine import Joint


def difference(first, second):
    """The least text that exactly one of two patterns matches, or None."""
    return _least(first, second, ([0], [1]))


def common(first, second):
    """The least text that both patterns match, or None."""
    return _least(first, second, ([0, 1],))


def covers(first, second):
    """Tells whether the first pattern matches every text that the second one matches."""
    return _least(first, second, ([1],)) is None


def _least(first, second, wanted):
    """The least text such that the indexes of the patterns that match it are among those that are wanted."""
    joint = Joint([first, second])
    start = joint.start([0, 1])
    if joint.matching[start] in wanted:
        return ""
    return joint.least_text(start, lambda state: joint.matching[state] in wanted)
