"""Rules from which rows with themselves can be derived."""


def ring_of(arrows, rule):
    """The names on a shortest way along single arrows from a rule to itself; an empty tuple if there is none."""
    ways = {}
    waiting = [(rule,)]
    at = 0
    while at < len(waiting):
        way = waiting[at]
        at += 1
        for other in arrows[way[-1]]:
            if other == rule:
                return way + (other,)
            if other not in ways:
                ways[other] = True
                waiting.append(way + (other,))
    return ()


def single_arrows(grammar, firsts):
    """For each rule the rules that stand in one of its alternatives where all other symbols can become empty."""
    arrows = {rule: [] for rule in grammar.rules}
    for rule, symbols, _, _ in grammar.alternatives:
        for index, symbol in enumerate(symbols):
            others = symbols[:index] + symbols[index + 1:]
            if symbol in arrows and firsts.can_be_empty(others):
                arrows[rule].append(symbol)
    return arrows


def is_hidden_left(arrows, rule):
    """Tells whether a way along left arrows leads from a rule to itself, with symbols before it."""
    # A rule is reached with True if something stands before it, otherwise with False.
    reached = {(rule, False): True}
    waiting = [(rule, False)]
    while waiting:
        last, behind = waiting.pop()
        for other, after in arrows[last]:
            step = (other, behind or after)
            if step not in reached:
                reached[step] = True
                waiting.append(step)
    return (rule, True) in reached


def left_arrows(grammar, firsts):
    """For each rule the rules before which all symbols can become empty, as pairs (rule, whether there are any)."""
    arrows = {rule: [] for rule in grammar.rules}
    for rule, symbols, _, _ in grammar.alternatives:
        for index, symbol in enumerate(symbols):
            if symbol in arrows and firsts.can_be_empty(symbols[:index]):
                arrows[rule].append((symbol, index > 0))
    return arrows
