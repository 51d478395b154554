"""How a state of a table sees a text."""

from mendedtree.signs.lexicon import numbered


class Sight:
    """What a state finds in texts: only the kinds that it offers, and the end if it offers that."""

    def __init__(self, lexicon, offers):
        self.is_blind = not offers
        numbers = numbered(offers)
        self._guide = lexicon.guide(numbers)
        self._any = lexicon.guide({name: 0 for name in offers})
        self._answers = {numbers[name]: answer for name, answer in offers.items()}

    def decide(self, text, place):
        """The answer of a text at a place, or None, and how many characters decide it."""
        if self.is_blind:
            return None, 0
        number, looked = self._guide.decide(text, place)
        return self._answers.get(number), looked

    def has_answer(self, text, place):
        """Tells whether there is an answer, and how many characters decide that."""
        if self.is_blind:
            return False, 0
        number, looked = self._any.decide(text, place)
        return number >= 0, looked

    def scan(self, text, place):
        """What a scan finds: (lead, kind, width, looked)."""
        return self._guide.scan(text, place)
