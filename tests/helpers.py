"""Slow but plain ways to find what the program must return, and material for tests."""

import itertools
import random

from mendedtree.trees.node import Node


def ends(pattern, text, start):
    """All places where a piece that begins at a place and that the pattern matches can end."""
    if pattern[0] == "set":
        return {start + 1} if text[start:start + 1] and text[start] in pattern[1] else set()
    if pattern[0] == "row":
        places = {start}
        for member in pattern[1]:
            places = {end for place in places for end in ends(member, text, place)}
        return places
    if pattern[0] == "choice":
        return {end for member in pattern[1] for end in ends(member, text, start)}
    _, member, least, most = pattern
    places = {start}
    for _ in range(least):
        places = {end for place in places for end in ends(member, text, place)}
    found = set(places)
    count = least
    while places and (most is None or count < most):
        places = {end for place in places for end in ends(member, text, place)} - found
        found |= places
        count += 1
    return found


def matches(pattern, text):
    return len(text) in ends(pattern, text, 0)


def texts(chars, longest):
    """All texts of some characters up to a length, from the least one on."""
    for length in range(longest + 1):
        for row in itertools.product(sorted(chars), repeat=length):
            yield "".join(row)


def random_pattern(chance, chars="ab", depth=3):
    """A pattern, as [1.2] describes them."""
    if depth == 0 or chance.random() < 0.3:
        count = chance.randint(1, len(chars))
        return ("set", "".join(sorted(chance.sample(chars, count))))
    word = chance.choice(["row", "choice", "repeat"])
    if word == "repeat":
        least, most = chance.choice([(0, 1), (0, None), (1, None), (2, 2), (0, 2), (1, 3), (2, 3), (3, 3)])
        return ("repeat", random_pattern(chance, chars, depth - 1), least, most)
    members = []
    count = chance.choice([0, 2, 2, 3]) if word == "row" else chance.choice([2, 3])
    for _ in range(count):
        member = random_pattern(chance, chars, depth - 1)
        while member[0] == word:
            member = random_pattern(chance, chars, depth - 1)
        members.append(member)
    return (word, tuple(members))


def random_patterns(seed, count, chars="ab", depth=3):
    chance = random.Random(seed)
    return [random_pattern(chance, chars, depth) for _ in range(count)]


def leaf(kind, width, lead=0, state=0):
    return Node(kind, kind, state=state, lead=lead, width=width, look=width + 1)


def inner(kind, *nodes, alternative=0):
    lead = next((node.lead for node in nodes if node.width), 0)
    width = sum(node.width for node in nodes)
    return Node(kind, kind, state=0, lead=lead, width=width, look=width + 1, alternative=alternative, nodes=nodes)


def error(symbol, *nodes, popped=0):
    width = sum(node.width for node in nodes)
    lead = nodes[0].lead if nodes else 0
    return Node("error", symbol, state=0, lead=lead, width=width, look=width + 1, nodes=nodes, popped=popped)


def root(*nodes):
    width = sum(node.width for node in nodes)
    return Node("root", "root", state=0, lead=0, width=width, look=width + 1, nodes=nodes)


def raised(function, *arguments):
    """The error that a call raises, as a tuple of its class's name and its attributes."""
    try:
        function(*arguments)
    except ValueError as fault:
        return (type(fault).__name__,) + tuple(vars(fault).values())
    return None
