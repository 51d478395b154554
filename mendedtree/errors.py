"""The errors of the program."""


class MendedError(ValueError):
    """The base class of all errors of the program."""


class PatternError(MendedError):
    """The notation of a pattern has a fault."""

    def __init__(self, place, reason):
        MendedError.__init__(self, f"pattern, place {place}: {reason}")
        self.place = place
        self.reason = reason


class NoWitness(MendedError):
    """No text shows that a place was examined."""

    def __init__(self, place):
        MendedError.__init__(self, f"no witness for the place {place}")
        self.place = place


class GrammarError(MendedError):
    """The notation of a grammar has a fault."""

    def __init__(self, line, reason, names):
        MendedError.__init__(self, f"grammar, line {line}: {reason} {names}")
        self.line = line
        self.reason = reason
        self.names = names


class TableError(MendedError):
    """The written form of a table has a fault."""

    def __init__(self, line):
        MendedError.__init__(self, f"table, line {line}")
        self.line = line


class TreeError(MendedError):
    """The written form of a tree has a fault."""

    def __init__(self, place):
        MendedError.__init__(self, f"tree, place {place}")
        self.place = place


class NoNode(MendedError):
    """A tree has no node at a path."""

    def __init__(self, path):
        MendedError.__init__(self, f"no node at the path {path}")
        self.path = path


class EditError(MendedError):
    """An edit does not fit its text."""

    def __init__(self, index):
        MendedError.__init__(self, f"the edit {index} does not fit")
        self.index = index


class Entangled(MendedError):
    """Two edits cannot be exchanged."""

    def __init__(self, first, second):
        MendedError.__init__(self, f"{first} and {second} cannot be exchanged")
        self.first = first
        self.second = second


class QueryError(MendedError):
    """The notation of a query has a fault."""

    def __init__(self, place, reason):
        MendedError.__init__(self, f"query, place {place}: {reason}")
        self.place = place
        self.reason = reason


class UnknownLanguage(MendedError):
    """No table of a language is on the shelf."""

    def __init__(self, language):
        MendedError.__init__(self, f"no table of the language {language}")
        self.language = language


class NoLayer(MendedError):
    """There is no layer at a path."""

    def __init__(self, path):
        MendedError.__init__(self, f"no layer at the path {path}")
        self.path = path


class BadMark(MendedError):
    """A mark has a place or a side that it cannot have."""

    def __init__(self, name):
        MendedError.__init__(self, f"the mark {name} cannot be set")
        self.name = name


class NoMark(MendedError):
    """There is no mark with a name."""

    def __init__(self, name):
        MendedError.__init__(self, f"no mark {name}")
        self.name = name


class HistoryError(MendedError):
    """The base class of the errors of histories."""


class NothingToUndo(HistoryError):
    """The first version has no parent."""


class NothingToRedo(HistoryError):
    """A version has no children."""

    def __init__(self, number):
        HistoryError.__init__(self, f"the version {number} has no children")
        self.number = number


class NoVersion(HistoryError):
    """There is no version with a number."""

    def __init__(self, number):
        HistoryError.__init__(self, f"no version {number}")
        self.number = number


class NotInPast(HistoryError):
    """The current version does not come from a version."""

    def __init__(self, number):
        HistoryError.__init__(self, f"the version {number} is not in the past")
        self.number = number


class BadHistory(HistoryError):
    """A list of versions has a fault."""

    def __init__(self, index):
        HistoryError.__init__(self, f"history, entry {index}")
        self.index = index
