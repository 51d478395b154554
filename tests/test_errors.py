"""[0.3] and the interface: the classes of errors."""

import unittest

from mendedtree import errors

CLASSES = {
    "PatternError": ("place", "reason"), "NoWitness": ("place",), "GrammarError": ("line", "reason", "names"),
    "TableError": ("line",), "TreeError": ("place",), "NoNode": ("path",), "EditError": ("index",),
    "Entangled": ("first", "second"), "QueryError": ("place", "reason"), "UnknownLanguage": ("language",),
    "NoLayer": ("path",), "BadMark": ("name",), "NoMark": ("name",), "HistoryError": (),
}
HISTORY_CLASSES = {
    "NothingToUndo": (), "NothingToRedo": ("number",), "NoVersion": ("number",), "NotInPast": ("number",),
    "BadHistory": ("index",),
}
VALUES = {
    "place": 7, "reason": "range", "line": 3, "names": ("a", "b"), "path": (0, 2), "index": 4,
    "first": (0, 1, "x"), "second": (2, 2, "y"), "language": "tiny", "name": "here", "number": 5,
}


class ErrorsTest(unittest.TestCase):
    def check(self, name, attributes, base):
        made = getattr(errors, name)(*[VALUES[attribute] for attribute in attributes])
        for attribute in attributes:
            self.assertEqual(getattr(made, attribute), VALUES[attribute], name)
        self.assertEqual(type(made).__bases__, (base,))
        self.assertIsInstance(made, errors.MendedError)
        self.assertIsInstance(made, ValueError)
        self.assertIsInstance(str(made), str)
        self.assertEqual(set(vars(made)), set(attributes))
        with self.assertRaises(errors.MendedError):
            raise made

    def test_classes_under_mended_error(self):
        for name, attributes in CLASSES.items():
            self.check(name, attributes, errors.MendedError)

    def test_classes_under_history_error(self):
        for name, attributes in HISTORY_CLASSES.items():
            self.check(name, attributes, errors.HistoryError)

    def test_the_base_class(self):
        self.assertEqual(errors.MendedError.__bases__, (ValueError,))

    def test_no_other_classes_have_subclasses(self):
        made = {name for name, value in vars(errors).items() if isinstance(value, type)}
        self.assertEqual(made, set(CLASSES) | set(HISTORY_CLASSES) | {"MendedError"})
        for name in set(CLASSES) | set(HISTORY_CLASSES):
            expected = set(HISTORY_CLASSES) if name == "HistoryError" else set()
            self.assertEqual({found.__name__ for found in getattr(errors, name).__subclasses__()}, expected)

    def test_attributes_in_the_order_of_the_arguments(self):
        entangled = errors.Entangled((0, 1, "x"), (2, 2, "y"))
        self.assertEqual((entangled.first, entangled.second), ((0, 1, "x"), (2, 2, "y")))
        fault = errors.GrammarError(3, "ring", ("s", "t", "s"))
        self.assertEqual((fault.line, fault.reason, fault.names), (3, "ring", ("s", "t", "s")))


if __name__ == "__main__":
    unittest.main()
