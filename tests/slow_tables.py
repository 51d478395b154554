"""Tables as [3.1] to [3.6] say them, with sets of items, slowly."""

from mendedtree.grammar.deriving import empty_rules, first_kinds


class SlowTable:
    def __init__(self, grammar):
        self.grammar = grammar
        self.kinds = [name for name, _ in grammar.kinds] + ["end"]
        self.symbols = self.kinds + list(grammar.rules)
        self.rows = list(enumerate([alternative[1] for alternative in grammar.alternatives]))
        self.empty = set(empty_rules(grammar))
        self.firsts = {}
        start = self.closure({(-1, 0, "end")})
        self.states, self.least = [start], [()]
        self.actions, self.moves, self.clashes = [], [], []
        while len(self.actions) < len(self.states):
            self.put(len(self.actions))
        self.classes = self.refine()
        order = []
        for number in self.classes:
            if number not in order:
                order.append(number)
        self.numbers = [order.index(number) for number in self.classes]
        self.count = len(order)

    def row(self, number):
        return (self.grammar.rules[0],) if number < 0 else self.grammar.alternatives[number][1]

    def next(self, item):
        row = self.row(item[0])
        return row[item[1]] if item[1] < len(row) else None

    def lookaheads(self, item):
        rest = self.row(item[0])[item[1] + 1:]
        if rest not in self.firsts:
            self.firsts[rest] = set(first_kinds(self.grammar, list(rest))), all(symbol in self.empty for symbol in rest)
        kinds, empty = self.firsts[rest]
        return kinds | {item[2]} if empty else kinds

    def closure(self, items):
        found, waiting = set(items), list(items)
        while waiting:
            item = waiting.pop()
            symbol = self.next(item)
            for number, (rule, _, _, _) in enumerate(self.grammar.alternatives):
                if rule == symbol:
                    more = {(number, 0, kind) for kind in self.lookaheads(item)} - found
                    found |= more
                    waiting.extend(more)
        return frozenset(found)

    def successor(self, state, symbol):
        items = {(a, d + 1, k) for a, d, k in state if self.next((a, d, k)) == symbol}
        return self.closure(items) if items else None

    def candidates(self, state, kind):
        found = [("shift",)] if self.successor(state, kind) is not None else []
        found += sorted(("reduce", a) for a, d, k in state if a >= 0 and d == len(self.row(a)) and k == kind)
        if kind == "end" and (-1, 1, "end") in state:
            found.append(("accept",))
        return found

    def step_of(self, member):
        for index, (_, members) in enumerate(self.grammar.steps):
            if member in members:
                return index
        return None

    def choose(self, kind, candidates):
        reason = None
        reductions = [each for each in candidates if each[0] == "reduce"]
        if len(reductions) > 1:
            reductions, reason = reductions[:1], "order"
        if ("accept",) in candidates:
            return ("accept",), "order"
        if ("shift",) not in candidates:
            return reductions[0], reason
        if not reductions:
            return ("shift",), reason
        _, symbols, _, member = self.grammar.alternatives[reductions[0][1]]
        if not member:
            kinds = [symbol for symbol in symbols if symbol in self.kinds]
            member = kinds[-1] if kinds else None
        own, other = self.step_of(kind), self.step_of(member)
        if own is None or other is None:
            return ("shift",), "order"
        if own != other:
            return (("shift",) if own > other else reductions[0]), "step"
        side = self.grammar.steps[own][0]
        return {"left": reductions[0], "right": ("shift",), "none": ("error",)}[side], "side"

    def put(self, index):
        state = self.states[index]
        actions, moves = {}, {}
        for kind in self.kinds:
            candidates = self.candidates(state, kind)
            actions[kind] = ("error",)
            if candidates:
                actions[kind], reason = self.choose(kind, candidates)
            if len(candidates) > 1:
                self.clashes.append((self.least[index], kind, tuple(candidates), actions[kind], reason))
        for symbol in self.symbols:
            target = self.successor(state, symbol)
            if target is not None and actions.get(symbol, ("shift",)) == ("shift",):
                if target not in self.states:
                    self.states.append(target)
                    self.least.append(self.least[index] + (symbol,))
                moves[symbol] = self.states.index(target)
        self.actions.append(actions)
        self.moves.append(moves)

    def refine(self):
        marks = [(tuple(actions.items()), tuple(moves)) for actions, moves in zip(self.actions, self.moves)]
        classes = [marks.index(mark) for mark in marks]
        while True:
            marks = [
                (own, tuple((symbol, classes[target]) for symbol, target in moves.items()))
                for own, moves in zip(classes, self.moves)
            ]
            finer = [marks.index(mark) for mark in marks]
            if len(set(finer)) == len(set(classes)):
                return finer
            classes = finer

    def action(self, number, kind):
        state = self.numbers.index(number)
        action = self.actions[state][kind]
        return ("shift", self.numbers[self.moves[state][kind]]) if action == ("shift",) else action

    def goto(self, number, rule):
        target = self.moves[self.numbers.index(number)].get(rule)
        return -1 if target is None else self.numbers[target]

    def differs(self, first, second):
        """The first symbol in which two states differ."""
        for symbol in self.symbols:
            if symbol in self.kinds:
                one, other = self.action(first, symbol), self.action(second, symbol)
                if one != other and not (one[0] == other[0] == "shift"):
                    return symbol
            elif (self.goto(first, symbol) < 0) != (self.goto(second, symbol) < 0):
                return symbol
        return None

    def goes(self, number, symbol):
        if symbol not in self.kinds:
            return self.goto(number, symbol)
        action = self.action(number, symbol)
        return action[1] if action[0] == "shift" else -1

    def parting(self, first, second):
        """By trying all rows, from the least one on."""
        pairs = [((), first, second)]
        seen = {(first, second)}
        for row, one, other in pairs:
            symbol = self.differs(one, other)
            if symbol is not None:
                return row, symbol
            for symbol in self.symbols:
                pair = self.goes(one, symbol), self.goes(other, symbol)
                if min(pair) >= 0 and pair not in seen:
                    seen.add(pair)
                    pairs.append((row + (symbol,),) + pair)
        return None
