"""What the texts that a pattern matches have in common."""

from mendedtree.signs.alphabet import in_order


def matches_empty(pattern):
    """Tells whether a pattern matches the empty text."""
    if pattern[0] == "set":
        return False
    if pattern[0] == "row":
        return all([matches_empty(member) for member in pattern[1]])
    if pattern[0] == "choice":
        return any([matches_empty(member) for member in pattern[1]])
    return pattern[2] == 0 or matches_empty(pattern[1])


def first_chars(pattern):
    """The characters with which the texts that a pattern matches begin, in ascending order."""
    if pattern[0] == "set":
        return pattern[1]
    if pattern[0] == "choice":
        return in_order("".join([first_chars(member) for member in pattern[1]]))
    if pattern[0] == "repeat":
        return first_chars(pattern[1])
    chars = ""
    for member in pattern[1]:
        chars = chars + first_chars(member)
        if not matches_empty(member):
            break
    return in_order(chars)


def least_match(pattern):
    """The shortest text that a pattern matches; of several, the first one in the order of strings."""
    if pattern[0] == "set":
        return pattern[1][0]
    if pattern[0] == "row":
        return "".join([least_match(member) for member in pattern[1]])
    if pattern[0] == "choice":
        return min([least_match(member) for member in pattern[1]], key=lambda text: (len(text), text))
    return least_match(pattern[1]) * pattern[2]
