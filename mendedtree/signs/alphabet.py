"""The characters of texts."""

SIGNS = "\t\n !\"#$&'()*+,-./0123456789:;<=>?@ABCDEFGHIJKLMNOPQRSTUVWXYZ[\\]^_`abcdefghijklmnopqrstuvwxyz{|}~"
STRAY = "`"
PLAIN = "\t\n !\"#$&'()*+,-./0123456789:;<=>?@ABCDEFGHIJKLMNOPQRSTUVWXYZ[\\]^_abcdefghijklmnopqrstuvwxyz{|}~"


def is_text(value):
    """Tells whether a value is a string of characters."""
    return isinstance(value, str) and all([char in SIGNS for char in value])


def in_order(text):
    """The different characters of a text in ascending order."""
    return "".join(sorted(set(text)))
