"""The words of the lines of written tables."""

from mendedtree.errors import TableError


def words_of(number, line):
    """The words of a line. A literal is one word, even if it contains spaces."""
    words = []
    place = 0
    while place <= len(line):
        end = _end_of_word(line, place)
        # A literal, too, must end where a space stands or the line ends.
        if line[end:end + 1] not in ("", " "):
            raise TableError(number)
        words.append(line[place:end])
        place = end + 1
    return words


def _end_of_word(line, place):
    if line[place:place + 1] != "\"":
        end = line.find(" ", place)
        return end if end >= 0 else len(line)
    end = place + 1
    while end < len(line) and line[end] != "\"":
        # What stands behind a backslash does not end the literal.
        end = end + (2 if line[end] == "\\" else 1)
    return end + 1


class Words:
    """The words of a line with its number, which are read from the left to the right."""

    def __init__(self, number, line):
        self._line_number = number
        self._words = words_of(number, line)
        self._place = 0

    def is_done(self):
        """Tells whether all words were read."""
        return self._place == len(self._words)

    def word(self):
        """Reads the next word."""
        if self.is_done():
            raise TableError(self._line_number)
        self._place += 1
        return self._words[self._place - 1]

    def finish(self):
        """Reads the end of the line."""
        if not self.is_done():
            raise TableError(self._line_number)

    def one_of(self, allowed):
        """Reads a word that must be among those that are allowed."""
        word = self.word()
        if word not in allowed:
            raise TableError(self._line_number)
        return word

    def number_below(self, limit):
        """Reads a number from 0 on that is less than a limit."""
        word = self.word()
        # Long numbers are not even worked out.
        if word == "" or len(word) > len(str(limit)) or any([char not in "0123456789" for char in word]):
            raise TableError(self._line_number)
        if str(int(word)) != word or int(word) >= limit:
            raise TableError(self._line_number)
        return int(word)

    def row_before(self, sign, allowed):
        """Reads words that are allowed, and the sign behind them."""
        row = []
        word = self.word()
        while word != sign:
            if word not in allowed:
                raise TableError(self._line_number)
            row.append(word)
            word = self.word()
        return row
