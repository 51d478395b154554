"""Reading the layers of edited texts with the layers of the texts before the edits."""

from mendedtree.inner.layer import DEEPEST, Layer, layer_at, layers_with_paths, read_layer
from mendedtree.inner.pieces import inner_texts, pieces_carry
from mendedtree.keeping.reread import reread, reread_by
from mendedtree.trees.paths import count_nodes


def layer_carry(old, new, carry):
    """The carry from the text of an inner layer to that of another one, for the carry of the texts around them."""
    return pieces_carry(old.pieces, new.pieces, carry)


class Relayer:
    """A new outermost layer, with the rereads of its trees and the paths of the layers that were read anew."""

    def __init__(self, layer, rereads, fresh):
        self.layer = layer
        self.rereads = tuple(rereads)
        self.fresh = tuple(fresh)


def reread_layers(shelf, layer, edits):
    """Applies a list of edits to the text of an outermost layer."""
    found = reread(shelf.table_of(layer.language), layer.text, layer.tree, edits)
    renewal = Renewal(shelf)
    renewed = renewal.renew(layer, ((0, len(found.text)),), found, ())
    return Relayer(renewed, renewal.rereads, renewal.fresh)


class Renewal:
    """The making of new layers from old ones."""

    def __init__(self, shelf):
        self._shelf = shelf
        self.rereads = []
        self.fresh = []

    def renew(self, old, pieces, found, path):
        """The layer at a path that was reread from an old one, with the layers inside it."""
        self.rereads.append((path, found))
        layers = []
        if len(path) < DEEPEST:
            grammar = self._shelf.table_of(old.language).grammar
            before = {layer.language: layer for layer in old.layers}
            for part in inner_texts(self._shelf, grammar, found.tree, found.text):
                layers.append(self._inner(before, part, found.carry, path + (len(layers),)))
        return Layer(old.language, pieces, found.text, found.tree, layers)

    def _inner(self, before, part, carry, path):
        """The layer of an inner text; `before` has the old inner layers by their languages."""
        language, pieces, text = part
        if language in before:
            old = before[language]
            inner_carry = pieces_carry(old.pieces, pieces, carry)
            found = reread_by(self._shelf.table_of(language), old.tree, text, inner_carry)
            return self.renew(old, pieces, found, path)
        layer = read_layer(self._shelf, language, pieces, text, len(path))
        self.fresh.extend([path + below for below, _ in layers_with_paths(layer)])
        return layer


def count_rebuilt(relayer):
    """The number of the nodes that were built."""
    rebuilt = sum([len(found.rebuilt) for _, found in relayer.rereads])
    return rebuilt + sum([count_nodes(layer_at(relayer.layer, path).tree) for path in relayer.fresh])
