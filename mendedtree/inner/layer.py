"""Layers: texts of one language with their trees and the layers inside them."""

from mendedtree.edits.carry import across
from mendedtree.errors import NoLayer
from mendedtree.inner.pieces import inner_texts, runs_of
from mendedtree.reading.reader import read_text

DEEPEST = 3


class Layer:
    """A text of one language with its tree and the layers inside it."""

    def __init__(self, language, pieces, text, tree, layers):
        self.language = language
        self.pieces = pieces
        self.text = text
        self.tree = tree
        self.layers = tuple(layers)
        self._runs = runs_of(pieces)

    def to_outer(self, index):
        """The place, in the text around, of the character at an index; -1 for a seam and for the end."""
        return across(self._runs, 1, index)

    def to_inner(self, place):
        """The index of the character at a place of the text around; -1, if no piece contains it."""
        return across(self._runs, 0, place)


def read_layers(shelf, language, text):
    """The outermost layer of a text."""
    return read_layer(shelf, language, ((0, len(text)),), text, 0)


def read_layer(shelf, language, pieces, text, depth):
    """A layer at some depth, with the layers inside it."""
    table = shelf.table_of(language)
    tree = read_text(table, text)
    layers = []
    if depth < DEEPEST:
        for name, inside, inner_text in inner_texts(shelf, table.grammar, tree, text):
            layers.append(read_layer(shelf, name, inside, inner_text, depth + 1))
    return Layer(language, pieces, text, tree, layers)


def layers_with_paths(layer):
    """The pairs (path, layer) of a layer and all layers inside it, each before those inside it."""
    found = [((), layer)]
    for index, inner in enumerate(layer.layers):
        found.extend([((index,) + path, each) for path, each in layers_with_paths(inner)])
    return found


def layer_at(layer, path):
    """The layer to which a path leads."""
    return _layers_to(layer, path)[-1]


def _layers_to(layer, path):
    """All layers on a path, from the outermost one on."""
    found = [layer]
    for index in path:
        if index < 0 or index >= len(found[-1].layers):
            raise NoLayer(path)
        found.append(found[-1].layers[index])
    return found


def outermost(layer, path, index):
    """The place, in the outermost text, of the character at an index of the text of the layer at a path, or -1."""
    for each in reversed(_layers_to(layer, path)):
        index = each.to_outer(index)
    return index


def innermost(layer, place):
    """The pair (path, index) of the innermost layer that contains the character at a place of the outermost text."""
    path = []
    index = 0
    while index < len(layer.layers):
        inside = layer.layers[index].to_inner(place)
        if inside < 0:
            index += 1
        else:
            path.append(index)
            layer, place, index = layer.layers[index], inside, 0
    return tuple(path), place
