"""The stack on which a text is read."""

from mendedtree.reading.mending import Mending
from mendedtree.trees.node import Node, has_leaf


class Slot:
    """A state of the stack, with the node that was pushed with it."""

    def __init__(self, state, place, node, holds):
        self.state = state
        self.place = place
        self.node = node
        # Whether the node has a leaf that is not inside an error node.
        self.holds = holds
        # Up to where characters were examined since the state was pushed.
        self.reached = place


class Reading:
    """A text that is read from a place on.

    `known` has, by pairs (state, place), pairs (old place, node) of nodes that were built when another text was read
    and that would be built in this state and at this place again; they are taken instead.
    """

    def __init__(self, table, text, place, state, known):
        self._table = table
        self._text = text
        self._place = place
        self._known = known
        self._mending = Mending(table, text)
        self._slots = [Slot(state, place, None, False)]
        # The end leaf or the root, as soon as it was taken.
        self._last = None
        # What was taken, as triples (old place, place, node), and what was built, as pairs (place, node), in order.
        self._taken = []
        self._made = []

    def read_whole(self):
        """Reads up to the end of the text, and returns the root."""
        if self.advance() is None:
            self._resort()
            self.advance()
        return self._finish()

    def advance(self):
        """Takes all steps up to one that it cannot take, and returns the answer that asks for that one."""
        answer = self._answer()
        while self._took(answer):
            answer = self._answer()
        return answer

    def _answer(self):
        """Takes all known nodes that come next, and returns the answer behind them."""
        node = self._take(self._slots[-1].state)
        while node is not None:
            self._reach(self._place + node.look)
            if node.kind in ("end", "root"):
                self._last = node
                return ("accept",)
            self._place = self._place + node.width
            self._push(node, has_leaf(node))
            node = self._take(self._slots[-1].state)
        return self._decide()

    def _take(self, state):
        """The known node for a state at the place of the reading, or None; the node counts as taken."""
        if (state, self._place) not in self._known:
            return None
        old_place, node = self._known[(state, self._place)]
        self._taken.append((old_place, self._place, node))
        return node

    def _decide(self):
        answer, looked = self._table.sight(self._slots[-1].state).decide(self._text, self._place)
        self._reach(self._place + looked)
        return answer

    def _reach(self, place):
        """Notes up to where characters were examined."""
        top = self._slots[-1]
        top.reached = max(top.reached, place)

    def _took(self, answer):
        """Takes the step that an answer asks for, if that is possible; tells whether it was."""
        if answer is None:
            return self._recover()
        if answer[0] == "shift":
            self._shift(answer[1])
            return True
        if answer[0] == "reduce":
            return self._reduce(answer[1])
        return False

    def _push(self, node, holds):
        top = self._slots[-1]
        self._slots.append(Slot(self._table.behind(top.state, node), self._place, node, holds))

    def _pop(self, count):
        """Takes the last slots from the stack; what was examined for them counts for the state below."""
        split = len(self._slots) - count
        popped = self._slots[split:]
        del self._slots[split:]
        for slot in popped:
            self._reach(slot.reached)
        return popped

    def _shift(self, kind):
        top = self._slots[-1]
        lead, _, width, looked = self._table.sight(top.state).scan(self._text, self._place)
        self._reach(self._place + looked)
        look = top.reached - self._place
        leaf = self._built(self._place, Node(kind, kind, state=top.state, lead=lead, width=lead + width, look=look))
        self._place = self._place + leaf.width
        self._push(leaf, True)

    def _built(self, place, node):
        """The node itself; it counts as built."""
        self._made.append((place, node))
        return node

    def _reduce(self, alternative):
        rule, symbols, _, _ = self._table.grammar.alternatives[alternative]
        if len(symbols) >= len(self._slots):
            return False
        popped = self._pop(len(symbols))
        nodes = [slot.node for slot in popped]
        self._push(self._around(rule, rule, nodes, alternative, 0), any([slot.holds for slot in popped]))
        return True

    def _around(self, kind, symbol, nodes, alternative, popped):
        """A node that begins at the top of the stack and reaches up to the place of the reading."""
        top = self._slots[-1]
        width = self._place - top.place
        return self._built(top.place, Node(
            kind, symbol, state=top.state, lead=_lead_of(nodes), width=width, look=top.reached - top.place,
            alternative=alternative, nodes=nodes, popped=popped,
        ))

    def _recover(self):
        """Recovers by the first try that succeeds, if there is one; tells whether there was."""
        found = self._first_try()
        if found is None:
            return False
        depth, rule, end = found
        self._mend(depth, rule, end)
        return True

    def _first_try(self):
        """The depth of the state, the rule and the end of the first try that succeeds; None, if there is none."""
        holds = False
        for depth in range(len(self._slots) - 1, -1, -1):
            for rule in self._table.grammar.recover:
                target = self._table.goto(self._slots[depth].state, rule)
                if target < 0:
                    continue
                end, far = self._mending.attempt(target, self._place, holds)
                self._reach(far)
                if end >= 0:
                    return depth, rule, end
            holds = holds or self._slots[depth].holds
        return None

    def _mend(self, depth, rule, end):
        """Pushes an error node on the state at some depth; all leaves up to a place are skipped."""
        nodes = [slot.node for slot in self._pop(len(self._slots) - depth - 1)]
        count = len(nodes)
        while self._place < end:
            leaf = self._take(-1)
            if leaf is None:
                leaf = self._skipped_leaf()
            nodes.append(leaf)
            self._place = self._place + leaf.width
        self._push(self._around("error", rule, nodes, -1, count), False)

    def _skipped_leaf(self):
        kind, lead, behind, far = self._mending.leaf_at(self._place)
        width = behind - self._place
        return self._built(self._place, Node(kind, kind, state=-1, lead=lead, width=width, look=far - self._place))

    def _resort(self):
        """Recovers by the last resort."""
        at = self._place
        kind, _, behind, far = self._mending.leaf_at(at)
        while kind != "end":
            at = behind
            kind, _, behind, far = self._mending.leaf_at(at)
        # The last scan examines the end of the text, so that no other one reaches farther.
        self._reach(far)
        self._mend(0, self._table.grammar.rules[0], at)

    def _finish(self):
        """Takes the accepting step, and returns the root."""
        if self._last is None:
            self._last = self._end_leaf()
        if self._last.kind == "root":
            return self._last
        self._place = self._place + self._last.width
        nodes = [slot.node for slot in self._pop(1)]
        return self._around("root", "root", [*nodes, self._last], -1, 0)

    def _end_leaf(self):
        top = self._slots[-1]
        # The decision to accept has already examined the end of the text, up to which this scan skips characters.
        lead = self._table.sight(top.state).scan(self._text, self._place)[0]
        look = top.reached - self._place
        return self._built(self._place, Node("end", "end", state=top.state, lead=lead, width=lead, look=look))

    def taken_nodes(self):
        """The triples (old place, place, node) of the nodes that were taken, in order."""
        return list(self._taken)

    def built_nodes(self):
        """The pairs (place, node) of the nodes that were built, in order."""
        return list(self._made)

    def placed(self):
        """The pairs (place, node) of the nodes on the stack, from the bottom up."""
        return [(below.place, slot.node) for below, slot in zip(self._slots, self._slots[1:])]


def _lead_of(nodes):
    """The lead of the first leaf of a row of nodes."""
    # Leaves have characters, except for the end of a text.
    leads = [node.lead for node in nodes if node.width > 0]
    return leads[0] if leads else 0
