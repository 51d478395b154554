"""Languages within languages, for tests, and a slow way to find the layers of a text."""

from mendedtree.edits.carry import Carry
from mendedtree.grammar.notation import read_grammar
from mendedtree.inner.shelf import Shelf
from mendedtree.reading.reader import read_text
from mendedtree.tables.building import build_table
from tests.grammars import TINY

# Blocks in braces are sums, blocks in brackets pages again, and words in apostrophes are names.
PAGE = r"""language page
skip [ ]
kind raw = [^{}[\]'" \n][^{}[\]'"\n]*
kind code = [^{}[\]'" \n][^{}[\]'"\n]*
kind said = "'" [^'{}[\]\n]* "'"
kind line = "\n"
recover item
inner code tiny
inner said names
inner page page
rule doc = item*
rule item = raw | line | "{" code "}" | "[" page "]" | said
rule page = item*
"""
NAMES = "language names\nskip [ ']\nkind name = [a-z]+\nkind n = [0-9]+\ninner n tiny\ninner rest missing\nrule doc = (name | rest)*\nrule rest = n\n"
# Every pair of parentheses has a text of the same language inside, and the kind b belongs to another one.
NEST = 'language nest\nskip [ ]\nrecover in\ninner in nest\ninner all all\ninner "b" nest\nrule s = all\nrule all = ("(" in ")" | "a" | "b" | "\\n")*\nrule in = all\n'


def table_of(notation):
    return build_table(read_grammar(notation))


TINY_TABLE, PAGE_TABLE, NAMES_TABLE, NEST_TABLE = table_of(TINY), table_of(PAGE), table_of(NAMES), table_of(NEST)
SHELF = Shelf([TINY_TABLE, PAGE_TABLE, NAMES_TABLE, NEST_TABLE])


def slow_pieces(tree, symbols):
    """[9.2]."""
    found = []

    def pass_node(place, node):
        if node.symbol in symbols and node.kind != "error":
            if node.width > node.lead:
                found.append((place + node.lead, place + node.width))
            return
        for child in node.nodes:
            pass_node(place, child)
            place += child.width

    pass_node(0, tree)
    return tuple(found)


def slow_layers(shelf, language, text, pieces=None, depth=0):
    """[9.2] to [9.5]: the layers as tuples (language, pieces, text, tree, layers)."""
    table = shelf.table_of(language)
    tree = read_text(table, text)
    layers = []
    for name in dict.fromkeys(name for _, name in table.grammar.inner):
        inside = slow_pieces(tree, [symbol for symbol, other in table.grammar.inner if other == name])
        if depth < 3 and inside and name in shelf.languages:
            layers.append(slow_layers(shelf, name, "\n".join(text[start:end] for start, end in inside), inside, depth + 1))
    return language, pieces or ((0, len(text)),), text, tree, layers


def slow_items(pieces):
    """For each item of an inner text its place in the text around, or "seam" or "end"."""
    items = []
    for start, end in pieces:
        items.extend(list(range(start, end)) + ["seam"])
    return items[:-1] + ["end"]


def slow_carry(old, new, carry):
    """[9.7]: for each item of the old inner text its new index or -1."""
    before, behind = slow_items(old), slow_items(new)
    moved = []
    for index, item in enumerate(before):
        if item == "end":
            moved.append(len(behind) - 1)
        elif item == "seam":
            follows = moved[index - 1] >= 0 and behind[moved[index - 1] + 1] == "seam"
            moved.append(moved[index - 1] + 1 if follows else -1)
        else:
            place = carry.to_new(item)
            moved.append(behind.index(place) if place >= 0 and place in behind else -1)
    return moved


def carry_of_moved(moved, size):
    runs = []
    for index, place in enumerate(moved):
        if place >= 0:
            if runs and runs[-1][0] + runs[-1][2] == index and runs[-1][1] + runs[-1][2] == place:
                runs[-1] = (runs[-1][0], runs[-1][1], runs[-1][2] + 1)
            else:
                runs.append((index, place, 1))
    return Carry(len(moved) - 1, size, tuple(runs))
