"""Reading as [5.1] to [5.11] say it, slowly, with a list of all steps and of what each of them examined."""

from mendedtree.trees.node import Node, walk


class SlowReading:
    def __init__(self, table, text, place=0, state=0):
        self.table, self.text, self.place = table, text, place
        self.grammar = table.grammar
        # Quadruples (state, place, number of steps taken before, node that stands on it).
        self.stack = [(state, place, 0, None)]
        self.steps = []
        self.examined = []
        self.everything = list(table.lexicon.names) + ["end"]

    def take(self, action, far):
        self.steps.append((self.place, self.stack[-1][0], action))
        self.examined.append(far)

    def look_from(self, slot):
        return max(self.examined[slot[2]:]) - slot[1]

    def lead_of(self, nodes):
        """The lead of the first leaf in the order of walk."""
        for node in nodes:
            for _, inner in walk(node):
                if inner.alternative == -1 and inner.kind not in ("error", "root"):
                    return inner.lead
        return 0

    def push(self, node):
        state = self.stack[-1][0]
        action = self.table.action(state, node.symbol)
        target = action[1] if action[0] == "shift" else self.table.goto(state, node.symbol)
        assert target >= 0
        self.stack.append((target, self.place, len(self.steps), node))

    def build(self, kind, symbol, count, more=(), **values):
        nodes = [slot[3] for slot in self.stack[len(self.stack) - count:]] + list(more)
        del self.stack[len(self.stack) - count:]
        slot = self.stack[-1]
        width = sum(node.width for node in nodes)
        return Node(kind, symbol, state=slot[0], lead=self.lead_of(nodes), width=width, look=self.look_from(slot), nodes=nodes, **values)

    def step(self):
        """Takes a step; what it could not take it returns."""
        state = self.stack[-1][0]
        offers = self.table.offers(state)
        answer, looked = self.table.lexicon.decide(self.text, self.place, offers)
        if answer is None:
            return self.recover(self.place + looked)
        if answer == ("accept",):
            return answer
        if answer[0] == "shift":
            lead, kind, width, more = self.table.lexicon.scan(self.text, self.place, list(offers))
            assert kind == answer[1]
            self.take(answer, self.place + max(looked, more))
            node = Node(kind, kind, state=state, lead=lead, width=lead + width, look=max(looked, more))
            self.place += lead + width
            self.push(node)
            return None
        rule, symbols, _, _ = self.grammar.alternatives[answer[1]]
        if len(symbols) > len(self.stack) - 1:
            return answer
        self.take(answer, self.place + looked)
        self.push(self.build(rule, rule, len(symbols), alternative=answer[1]))
        return None

    def recover(self, far):
        for depth in range(len(self.stack) - 1, -1, -1):
            for rule in self.grammar.recover:
                target = self.table.goto(self.stack[depth][0], rule)
                if target < 0 or not self.table.offers(target):
                    continue
                popped = [slot[3] for slot in self.stack[depth + 1:]]
                succeeds, skipped, end, examined = self.attempt(popped, target, self.place, True)
                far = max(far, examined)
                if succeeds:
                    self.mend(depth, rule, skipped, end, far)
                    return None
        return far

    def attempt(self, popped, target, place, questions):
        skipped, far = [], place
        offers = {name: 0 for name in self.table.offers(target)}
        while True:
            if questions and (skipped or any(holds_leaf(node) for node in popped)):
                answer, looked = self.table.lexicon.decide(self.text, place, offers)
                far = max(far, place + looked)
                if answer is not None:
                    return True, skipped, place, far
            known = self.known_leaf(place)
            if known is not None:
                far = max(far, place + known.look)
                skipped.append(known)
                place += known.width
                continue
            lead, kind, width, looked = self.table.lexicon.scan(self.text, place, self.everything)
            far = max(far, place + looked)
            if kind == "end":
                return not questions, skipped, place, far
            if kind is None:
                kind, width = "stray", 1
            skipped.append(Node(kind, kind, state=-1, lead=lead, width=lead + width, look=looked))
            place += lead + width

    def known_leaf(self, place):
        """A leaf that is taken instead of the scan of a skipped leaf."""
        return None

    def mend(self, depth, rule, skipped, end, far):
        count = len(self.stack) - 1 - depth
        self.take(("recover", rule, count, len(skipped)), far)
        node = self.build("error", rule, count, skipped, popped=count)
        self.place = end
        self.push(node)

    def read(self):
        while True:
            stopped = self.step()
            if stopped == ("accept",):
                return self.accept()
            if stopped is not None:
                _, skipped, end, far = self.attempt([], 0, self.place, False)
                self.mend(0, self.grammar.rules[0], skipped, end, max(far, stopped))

    def accept(self):
        state = self.stack[-1][0]
        offers = self.table.offers(state)
        looked = self.table.lexicon.decide(self.text, self.place, offers)[1]
        lead, _, _, more = self.table.lexicon.scan(self.text, self.place, list(offers))
        self.take(("accept",), self.place + max(looked, more))
        end = Node("end", "end", state=state, lead=lead, width=lead, look=max(looked, more))
        assert len(self.stack) == 2
        return self.build("root", "root", 1, [end])

    def read_part(self):
        while self.step() is None:
            pass
        return [(below[1], slot[3]) for below, slot in zip(self.stack, self.stack[1:])]


def holds_leaf(node):
    if node.kind == "error":
        return False
    return node.alternative == -1 or any(holds_leaf(child) for child in node.nodes)


def random_text(chance, grammar, longest):
    """A text with some of what the kinds of a grammar match, and with faults."""
    from mendedtree.signs.matching import least_match
    words = [least_match(pattern) for _, pattern in grammar.kinds] + list(grammar.skip)
    words += ["x", "y", "z", "`", " ", "xx", "1", "+", "(", ")"]
    if chance.random() < 0.5:
        words = words[:len(grammar.kinds)] * 4 + words
    return "".join(chance.choice(words) for _ in range(chance.randint(0, longest)))
