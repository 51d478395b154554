"""Grammars for tests: some that look like languages, and random ones."""

import random

from mendedtree.errors import GrammarError
from mendedtree.grammar.notation import read_grammar

TINY = 'language tiny\nkind n = [0-9]+\nstep left "+"\nrule sum = sum "+" sum | n\n'

# Statements with blocks, calls and operators; line ends are skipped except where a statement ends with one.
CODE = r"""language code
skip [ \n]
kind word = [a-z]+
kind n = [0-9]+ ("." [0-9]+)?
kind text = "'" [^'\n]* "'"
kind note = "#" [^\n]*
step left "<"
step left "+" "-"
step right "^"
step left neg
recover stat expr
hidden line
inner text other
rule doc = line*
rule line = stat | note
rule stat = name:word "=" value:expr ";" | "if" test:expr then:block ("else" other:block)? | expr ";"
rule block = "{" line* "}"
rule expr = left:expr "<" right:expr | expr "+" expr | expr "-" expr | expr "^" expr | "-" expr @neg
  | call
"""
CODE = CODE.replace("\n  | call", " | call") + r"""rule call = word "(" (expr ("," expr)*)? ")" | atom
rule atom = word | n | text | "(" expr ")"
"""

# Lists in brackets whose elements may be missing.
LISTS = r"""language lists
skip [ ]
kind a = [a-z]+
recover list
rule list = "[" items "]" | "(" list? ")"
rule items = item | items "," item
rule item = a | list |
"""

SAMPLES = (TINY, CODE, LISTS)


def random_notation(chance):
    """The notation of a grammar with a few kinds and rules, which may have faults."""
    kinds = chance.sample([
        'x = "x"', 'y = "y"', "z = [xyz]+", 'w = "x" "y"+', 'v = "yx"? "z"', 'u = "x" [yz]{2}', 'blank = " "',
    ], chance.randint(1, 4))
    literals = chance.sample(['"x"', '"+"', '"xy"', '"z z"', '" "'], chance.randint(0, 2))
    names = [kind.split(" ")[0] for kind in kinds] + literals
    rules = ["s", "t", "r", "q"][:chance.randint(1, 4)]
    lines = ["language random"] + ["kind " + kind for kind in kinds]
    if chance.random() < 0.5:
        lines.append(chance.choice(["skip [ ]", "skip [ x]", "skip [\\n z]"]))
    members = chance.sample(names, chance.randint(0, len(names))) + ["mark"] * chance.randint(0, 1)
    chance.shuffle(members)
    while members:
        count = chance.randint(1, len(members))
        lines.append(" ".join(["step", chance.choice(["left", "right", "none"])] + members[:count]))
        members = members[count:]
    if chance.random() < 0.7:
        lines.append(" ".join(["recover"] + chance.sample(rules, chance.randint(1, len(rules)))))
    if chance.random() < 0.3:
        lines.append("hidden " + chance.choice(rules))
    if chance.random() < 0.3:
        lines.append(f"inner {chance.choice(names + rules)} other")
    for rule in rules:
        lines.append(f"rule {rule} = " + " | ".join(random_row(chance, names, rules) for _ in range(chance.randint(1, 4))))
    return "\n".join(lines) + "\n"


def random_row(chance, names, rules):
    words = []
    for _ in range(chance.choice([0, 1, 1, 2, 2, 3, 3, 4])):
        word = chance.choice(names) if chance.random() < 0.6 else chance.choice(rules)
        label = chance.choice(["", "", "one:", "two:"])
        words.append(label + word + chance.choice(["", "", "", "", "", "?", "*", "+"]))
    if chance.random() < 0.2:
        words.append("@" + chance.choice(names + ["mark"]))
    return " ".join(words)


def random_grammars(seed, count):
    """Random grammars without faults."""
    chance = random.Random(seed)
    found = []
    while len(found) < count:
        try:
            found.append(read_grammar(random_notation(chance)))
        except GrammarError:
            continue
    return found
