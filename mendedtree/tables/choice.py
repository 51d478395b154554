"""Which of several candidates for a kind is chosen."""


class Chooser:
    """Chooses actions by the precedence steps of a grammar."""

    def __init__(self, grammar):
        self._step_of = {}
        self._sides = []
        for index, (side, members) in enumerate(grammar.steps):
            self._sides.append(side)
            for member in members:
                self._step_of[member] = index
        kinds = {name: True for name, _ in grammar.kinds}
        self._members = [_member_of(alternative, kinds) for alternative in grammar.alternatives]

    def choose(self, kind, candidates):
        """The action for a kind or `end`, and the reason, which counts only if there are several candidates."""
        if ("accept",) in candidates:
            return ("accept",), "order"
        reductions = [each for each in candidates if each[0] == "reduce"]
        if not reductions:
            return ("shift",), "order"
        if ("shift",) in candidates:
            return self._compared(kind, min(reductions))
        return min(reductions), "order"

    def _compared(self, kind, reduction):
        """The choice between the shift of a kind and a reduction."""
        own = self._step_of.get(kind, -1)
        other = self._step_of.get(self._members[reduction[1]], -1)
        if own < 0 or other < 0:
            return ("shift",), "order"
        if own > other:
            return ("shift",), "step"
        if own < other:
            return reduction, "step"
        if self._sides[own] == "left":
            return reduction, "side"
        if self._sides[own] == "right":
            return ("shift",), "side"
        return ("error",), "side"


def _member_of(alternative, kinds):
    """The member whose step is that of an alternative; an empty string, if there is none."""
    _, symbols, _, member = alternative
    if member != "":
        return member
    own = [symbol for symbol in symbols if symbol in kinds]
    return own[-1] if own else ""
