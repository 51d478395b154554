"""Finding the tokens of texts."""

from mendedtree.errors import NoWitness
from mendedtree.signs.alphabet import STRAY
from mendedtree.signs.guide import Guide
from mendedtree.signs.machine import Joint
from mendedtree.signs.matching import first_chars


class Lexicon:
    """Kinds of tokens with their patterns, and characters that may be skipped between tokens."""

    def __init__(self, kinds, skip):
        self.names = tuple([name for name, _ in kinds])
        self.skip = skip
        self._joint = Joint([pattern for _, pattern in kinds])
        self._firsts = [first_chars(pattern) for _, pattern in kinds]
        self._guides = {}

    def guide(self, numbers):
        """The guide for a dictionary of numbers by the names that are allowed."""
        key = tuple([numbers.get(name, -1) for name in self.names]), numbers.get("end", -1)
        if key not in self._guides:
            begun = "".join([chars for chars, number in zip(self._firsts, key[0]) if number >= 0])
            skipped = "".join([char for char in self.skip if char not in begun])
            self._guides[key] = Guide(self._joint, self.names, skipped, key[0], key[1])
        return self._guides[key]

    def skipped(self, allowed):
        """The characters that a scan skips, in ascending order."""
        return self._allowing(allowed).blanks

    def _allowing(self, allowed):
        return self.guide({name: 0 for name in allowed})

    def scan(self, text, place, allowed):
        """What a scan finds: (lead, kind, width, looked)."""
        return self._allowing(allowed).scan(text, place)

    def other_scan(self, text, place, allowed, count):
        """A text that begins with the first `place + count` characters and in which a scan finds something else."""
        guide = self._allowing(allowed)
        found = guide.scan(text, place)
        if count < 0 or count >= found[3]:
            raise NoWitness(place + count)
        begin = text[:place + count]
        tries = [begin, begin + STRAY, begin + guide.blanks[:1], begin + guide.longer(begin, place)]
        return [other for other in tries if guide.scan(other, place)[:3] != found[:3]][0]

    def decide(self, text, place, answers):
        """The answer of a text at a place, and how many characters decide it: (answer, looked)."""
        if not answers:
            return None, 0
        numbers = numbered(answers)
        number, looked = self.guide(numbers).decide(text, place)
        for name, answer in answers.items():
            if numbers[name] == number:
                return answer, looked
        return None, looked

    def other(self, text, place, answers, count):
        """A text that begins with the first `place + count` characters and has another answer."""
        if count < 0 or count >= self.decide(text, place, answers)[1]:
            raise NoWitness(place + count)
        guide = self.guide(numbered(answers))
        number = guide.decide(text, place)[0]
        begin = text[:place + count]
        tries = [begin, begin + STRAY, begin + guide.to_other(begin, place, number)]
        return [other for other in tries if guide.decide(other, place)[0] != number][0]


def numbered(answers):
    """The same number for each name whose answer is the same."""
    numbers = {}
    different = []
    for name, answer in answers.items():
        if answer not in different:
            different.append(answer)
        numbers[name] = different.index(answer)
    return numbers
