"""How forms match the nodes of trees.

A binding is a tuple of triples (capture, offset, node). The offset is the distance from the node at which the form
was matched to the captured node, so that a binding holds wherever the tree stands. Equal bindings are kept.
"""

from mendedtree.asking.ways import Ways
from mendedtree.trees.paths import source
from mendedtree.trees.seeing import seen


class Matcher:
    """Finds the bindings of the forms of a list, and remembers what it found at each node."""

    def __init__(self, grammar, forms):
        self._grammar = grammar
        # The forms are kept in one list, and forms inside forms are named by their numbers in it.
        self._forms = []
        self._numbers = [self._keep(form) for form in forms]
        self._children = {}
        self._found = {}
        self._below = {}

    def _keep(self, form):
        """Keeps a form behind all forms inside it; returns its number."""
        if form[0] == "choice":
            kept = ("choice", tuple([self._keep(member) for member in form[1]]), form[2])
        else:
            kept = ("node", form[1], tuple([self._keep_item(item) for item in form[2]]), form[3])
        self._forms.append(kept)
        return len(self._forms) - 1

    def _keep_item(self, item):
        if item[0] == "child":
            return ("child", item[1], self._keep(item[2]), item[3])
        if item[0] == "inside":
            return ("inside", self._keep(item[1]))
        return item

    def keep_only(self, nodes):
        """Forgets what it found at other nodes than the keys of a dictionary."""
        self._children = {node: self._children[node] for node in self._children if node in nodes}
        self._found = {key: self._found[key] for key in self._found if key[1] in nodes}
        self._below = {key: self._below[key] for key in self._below if key[1] in nodes}

    def seen_children(self, node):
        """The seen children of a node, as `seen` returns them."""
        if node not in self._children:
            self._children[node] = seen(self._grammar, node)
        return list(self._children[node])

    def seen_nodes(self, tree):
        """The seen nodes of a tree that stands at place 0, in seen order, as pairs (place, node)."""
        found = []
        waiting = [(0, tree)]
        while waiting:
            place, node = waiting.pop()
            found.append((place, node))
            children = self.seen_children(node)
            waiting.extend([(place + offset, child) for offset, _, child in reversed(children)])
        return found

    def bindings(self, index, node):
        """The bindings of a form of the list at a seen node, in their order."""
        return list(self._bindings(self._numbers[index], node))

    def _bindings(self, number, node):
        key = (number, node)
        if key not in self._found:
            self._found[key] = self._match(self._forms[number], node)
        return self._found[key]

    def _match(self, form, node):
        found = []
        if form[0] == "choice":
            for member in form[1]:
                found.extend(self._bindings(member, node))
        elif form[1] in ("_", node.kind):
            found = self._match_items(form[2], node)
        capture = form[-1]
        if capture == "":
            return found
        return [((capture, 0, node),) + binding for binding in found]

    def _match_items(self, items, node):
        """The bindings of all items, or an empty list as soon as one of them has no way."""
        children = self.seen_children(node)
        ways = Ways(len(children))
        for item in items:
            if item[0] == "anchor":
                ways.put_anchor()
            elif item[0] == "absent":
                if item[1] in [label for _, label, _ in children]:
                    return []
            elif item[0] == "inside":
                inside = self._inside(item[1], node)
                if not inside:
                    return []
                ways.put_inside(inside)
            else:
                ways.put_child(self._at_children(item, children), item[3])
        return ways.bindings()

    def _at_children(self, item, children):
        """For each seen child, the bindings that a child item has there."""
        _, wanted, number, _ = item
        found = []
        for offset, label, child in children:
            if wanted in ("", label):
                found.append(_moved(self._bindings(number, child), offset))
            else:
                found.append([])
        return found

    def _inside(self, number, node):
        """The bindings of a form at all seen descendants of a node, in seen order."""
        found = []
        waiting = self._places_below(number, node, 0)
        while waiting:
            place, child = waiting.pop()
            found.extend(_moved(self._bindings(number, child), place))
            waiting.extend(self._places_below(number, child, place))
        return found

    def _places_below(self, number, node, place):
        """The seen children of a node from the last to the first, if a form has a binding below the node."""
        if not self._is_below(number, node):
            return []
        children = self.seen_children(node)
        return [(place + offset, child) for offset, _, child in reversed(children)]

    def _is_below(self, number, node):
        """Tells whether a form has a binding at a seen descendant of a node."""
        # This is remembered, because else each node of a deep tree would be looked at once for each node around it.
        waiting = [node]
        while (number, node) not in self._below:
            last = waiting[-1]
            children = [child for _, _, child in self.seen_children(last)]
            missing = [child for child in children if (number, child) not in self._below]
            if missing:
                waiting.extend(missing)
                continue
            waiting.pop()
            below = [self._below[(number, child)] or bool(self._bindings(number, child)) for child in children]
            self._below[(number, last)] = any(below)
        return self._below[(number, node)]


def _moved(bindings, distance):
    """Bindings at a node, as they are counted from a node that begins the distance before it."""
    return [tuple([(name, offset + distance, node) for name, offset, node in binding]) for binding in bindings]


def captured_texts(binding, place, text):
    """The texts of the captured nodes by their captures, for a binding at a node that stands at a place."""
    return {name: source(node, place + offset, text) for name, offset, node in binding}


def holds(test, texts):
    """Tells whether a test holds for the texts of a binding."""
    word, capture, other = test
    if capture not in texts:
        return False
    if word == "is":
        return texts[capture] == other
    if word == "not":
        return texts[capture] != other
    if other not in texts:
        return False
    if word == "same":
        return texts[capture] == texts[other]
    return texts[capture] != texts[other]
