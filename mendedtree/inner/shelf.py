"""The tables of several languages."""

from mendedtree.errors import UnknownLanguage


class Shelf:
    """Tables by the names of their grammars."""

    def __init__(self, tables):
        self.languages = tuple([table.grammar.name for table in tables])
        self._tables = {table.grammar.name: table for table in tables}

    def table_of(self, language):
        """The table of a language."""
        if language not in self._tables:
            raise UnknownLanguage(language)
        return self._tables[language]
