"""The package keeps to the rules of its subset of Python, as far as a program can see it."""

import ast
import builtins
import io
import keyword
import re
import tokenize
import unittest
from pathlib import Path

ROOT = Path(__file__).resolve().parent.parent / "mendedtree"
FILES = sorted(path for path in ROOT.rglob("*.py"))

BUILTINS = set(
    "len range enumerate zip min max sum abs sorted reversed int str bool list tuple dict set isinstance ord repr any "
    "all divmod iter next Exception ValueError TypeError KeyError IndexError LookupError ZeroDivisionError "
    "ArithmeticError OverflowError RuntimeError NotImplementedError AttributeError NotImplemented".split()
)
METHODS = set(
    "append clear copy count endswith extend find get index insert isalnum isalpha isdigit islower isspace isupper "
    "items join keys ljust lower lstrip partition pop remove replace reverse rfind rjust rpartition rsplit rstrip "
    "setdefault split splitlines startswith strip update upper values zfill bit_length".split()
)
MODIFYING = set("append clear extend insert pop remove reverse setdefault update".split())
DUNDERS = set(
    "init eq repr str len enter exit call iter lt le gt ge ne add sub mul floordiv mod and or xor lshift rshift neg "
    "pos invert abs bool contains getitem setitem".split()
)
BAD_ATTRIBUTES = set(
    "items keys values pop update append clear extend insert remove reverse setdefault sort args encode decode hex "
    "fromhex format format_map mro as_integer_ratio bit_count conjugate from_bytes is_integer to_bytes".split()
)
BAD_NAMES = set("register mro elements open input law version_info with_traceback add_note".split())
BAD_WORDS = set(
    "type typing typing_extensions enum Enum IntEnum StrEnum Flag IntFlag Generic Protocol ABC ABCMeta namedtuple "
    "NamedTuple TypedDict TYPE_CHECKING abstractmethod _wall _WallAttr".split()
)
STATEMENTS = (
    ast.Assign, ast.AugAssign, ast.If, ast.While, ast.For, ast.Return, ast.Break, ast.Continue, ast.Pass, ast.Raise,
    ast.Assert, ast.Delete, ast.Try, ast.Expr, ast.FunctionDef, ast.ClassDef, ast.ImportFrom,
)


def parsed():
    return {path: ast.parse(path.read_text()) for path in FILES}


TREES = parsed()


def module_name(path):
    parts = ("mendedtree",) + path.relative_to(ROOT).with_suffix("").parts
    return ".".join(parts[:-1] if parts[-1] == "__init__" else parts)


MODULES = {module_name(path): path for path in FILES}
CLASSES = {node.name for tree in TREES.values() for node in ast.walk(tree) if isinstance(node, ast.ClassDef)}


def own_methods():
    found = set()
    for tree in TREES.values():
        for node in ast.walk(tree):
            if isinstance(node, ast.ClassDef):
                found |= {part.name for part in node.body if isinstance(part, ast.FunctionDef)}
    return found


def own_attributes():
    found = set()
    for tree in TREES.values():
        for node in ast.walk(tree):
            if isinstance(node, ast.Attribute) and isinstance(node.ctx, ast.Store):
                found.add(node.attr)
    return found


class LanguageTest(unittest.TestCase):
    def each_node(self):
        for path, tree in TREES.items():
            for node in ast.walk(tree):
                yield path, node

    def fail_at(self, path, node, what):
        self.fail(f"{path.relative_to(ROOT)}:{getattr(node, 'lineno', 0)}: {what}")

    def test_files(self):
        for path in ROOT.rglob("*"):
            if "__pycache__" in path.parts:
                continue
            self.assertTrue(re.fullmatch(r"[a-z_][a-z0-9_]*(\.py)?", path.name), path)
            self.assertTrue(path.is_dir() or path.suffix == ".py", path)
            if path.is_dir():
                self.assertTrue((path / "__init__.py").exists(), path)
                self.assertFalse(path.with_suffix(".py").exists(), path)
        self.assertLessEqual(len(FILES), 100)

    def test_sizes_and_characters(self):
        for path in FILES:
            text = path.read_text()
            self.assertTrue(all(char == "\n" or " " <= char <= "~" for char in text), path)
            self.assertLessEqual(len(text.split("\n")) - 1, 399, path)
            for number, line in enumerate(text.split("\n"), start=1):
                self.assertLessEqual(len(line), 120, f"{path}:{number}")
        for path, node in self.each_node():
            if isinstance(node, (ast.FunctionDef, ast.Lambda)):
                self.assertLessEqual(node.end_lineno - node.lineno + 1, 40, f"{path}:{node.lineno}")

    def test_imports(self):
        graph = {}
        for path, tree in TREES.items():
            graph[module_name(path)] = set()
            for node in ast.walk(tree):
                self.assertNotIsInstance(node, ast.Import)
                if isinstance(node, ast.ImportFrom):
                    self.assertIn(node.module, MODULES, path)
                    self.assertEqual(node.level, 0)
                    self.assertIn(node, tree.body)
                    graph[module_name(path)].add(node.module)
                    defined = set()
                    for part in TREES[MODULES[node.module]].body:
                        if isinstance(part, (ast.FunctionDef, ast.ClassDef)):
                            defined.add(part.name)
                        elif isinstance(part, ast.Assign):
                            defined |= {target.id for target in part.targets}
                    for alias in node.names:
                        self.assertIn(alias.name, defined, f"{path}: {alias.name}")
                        self.assertIsNone(alias.asname)
        self.check_no_ring(graph)

    def check_no_ring(self, graph):
        done = set()
        while len(done) < len(graph):
            ready = [name for name in graph if name not in done and graph[name] <= done]
            self.assertTrue(ready, f"modules import each other: {sorted(set(graph) - done)}")
            done |= set(ready)

    def test_each_part_uses_only_parts_before_it(self):
        parts = ["errors", "signs", "grammar", "tables", "trees", "reading", "edits", "keeping", "asking", "inner", "history"]
        for path, node in self.each_node():
            if isinstance(node, ast.ImportFrom):
                part = module_name(path).split(".")[1]
                self.assertLessEqual(parts.index(node.module.split(".")[1]), parts.index(part), path)

    def test_imports_are_used(self):
        for path, tree in TREES.items():
            used = {node.id for node in ast.walk(tree) if isinstance(node, ast.Name)}
            for node in ast.walk(tree):
                if isinstance(node, ast.ImportFrom):
                    for alias in node.names:
                        self.assertIn(alias.name, used, path)

    def test_module_level(self):
        for path, tree in TREES.items():
            bound = []
            for index, node in enumerate(tree.body):
                if isinstance(node, ast.Expr):
                    self.assertTrue(index == 0 and isinstance(node.value, ast.Constant), path)
                elif isinstance(node, ast.Assign):
                    self.assertEqual(len(node.targets), 1)
                    self.assertIsInstance(node.targets[0], ast.Name)
                    bound.append(node.targets[0].id)
                    for part in ast.walk(node.value):
                        allowed = (ast.Constant, ast.Tuple, ast.List, ast.Dict, ast.Load, ast.Name)
                        self.assertIsInstance(part, allowed, f"{path}:{node.lineno}")
                elif isinstance(node, (ast.FunctionDef, ast.ClassDef)):
                    bound.append(node.name)
                elif isinstance(node, ast.ImportFrom):
                    bound.extend(alias.name for alias in node.names)
                else:
                    self.fail_at(path, node, "not at module level")
            self.assertEqual(len(bound), len(set(bound)), path)

    def test_statements_and_expressions(self):
        banned = (
            ast.GeneratorExp, ast.AnnAssign, ast.NamedExpr, ast.YieldFrom, ast.Await, ast.Global,
            ast.Nonlocal, ast.With, ast.Match, ast.Div, ast.MatMult, ast.Set,
        )
        for path, node in self.each_node():
            if isinstance(node, ast.stmt) and not isinstance(node, STATEMENTS):
                self.fail_at(path, node, "statement")
            if isinstance(node, banned):
                self.fail_at(path, node, type(node).__name__)
            if isinstance(node, ast.Constant):
                self.assertNotIsInstance(node.value, (float, complex, bytes))
            if isinstance(node, ast.Compare) and any(isinstance(op, (ast.Is, ast.IsNot)) for op in node.ops):
                if not isinstance(node.comparators[0], ast.Constant):
                    self.fail_at(path, node, "is")
            if isinstance(node, ast.Pow):
                self.fail_at(path, node, "power")

    def test_functions(self):
        for path, node in self.each_node():
            if isinstance(node, ast.FunctionDef):
                for decorator in node.decorator_list:
                    self.assertIn(ast.unparse(decorator), ("staticmethod", "classmethod", "property"))
                self.assertIsNone(node.returns)
                arguments = node.args
                self.assertFalse(arguments.vararg or arguments.kwarg or arguments.posonlyargs)
                for argument in arguments.args + arguments.kwonlyargs:
                    self.assertIsNone(argument.annotation)

    def test_classes(self):
        for path, node in self.each_node():
            if not isinstance(node, ast.ClassDef):
                continue
            self.assertFalse(node.decorator_list)
            for part in node.body:
                is_doc = isinstance(part, ast.Expr) and isinstance(part.value, ast.Constant)
                self.assertTrue(is_doc or isinstance(part, ast.FunctionDef), f"{path}:{part.lineno}")
                if isinstance(part, ast.FunctionDef) and part.name.startswith("__"):
                    self.assertIn(part.name[2:-2], DUNDERS)

    def test_names(self):
        shadowed = set(dir(builtins))
        methods = own_methods()
        for path, tree in TREES.items():
            taken = set()
            for node in tree.body:
                if isinstance(node, ast.ClassDef):
                    taken.add(node.name)
                if isinstance(node, ast.ImportFrom):
                    taken |= {alias.name for alias in node.names}
            for node in ast.walk(tree):
                for name, is_method in bound_names(node, methods):
                    self.assertTrue(re.fullmatch(r"_|_?[A-Za-z][A-Za-z0-9_]*|__[a-z]+__", name), f"{path}: {name}")
                    self.assertNotIn(name, BAD_NAMES, path)
                    self.assertFalse(keyword.issoftkeyword(name) and name in BAD_WORDS)
                    if not is_method:
                        self.assertNotIn(name, shadowed, f"{path}:{node.lineno}")
                    if isinstance(node, (ast.Name, ast.arg)):
                        self.assertNotIn(name, taken, f"{path}:{node.lineno}")

    def test_underscore_is_never_read(self):
        for path, node in self.each_node():
            if isinstance(node, ast.Name) and node.id == "_":
                self.assertIsInstance(node.ctx, ast.Store, f"{path}:{node.lineno}")

    def test_builtins(self):
        for path, tree in TREES.items():
            known = set()
            for node in ast.walk(tree):
                known |= {name for name, _ in bound_names(node, set())}
                if isinstance(node, ast.ImportFrom):
                    known |= {alias.name for alias in node.names}
            for node in ast.walk(tree):
                if isinstance(node, ast.Name) and isinstance(node.ctx, ast.Load) and node.id not in known:
                    if node.id not in BUILTINS and node.id not in ("staticmethod", "classmethod", "property"):
                        self.fail_at(path, node, f"name {node.id}")

    def test_attributes(self):
        methods = own_methods()
        attributes = own_attributes()
        plain = {name for name in methods if not name.startswith("__")}
        self.assertFalse(plain & attributes, "both a method and an attribute")
        self.assertFalse(attributes & BAD_ATTRIBUTES)
        for path, node in self.each_node():
            if isinstance(node, ast.Attribute):
                self.assertNotIn(node.attr, BAD_NAMES)
                if node.attr not in methods | attributes | METHODS:
                    self.fail_at(path, node, f"attribute {node.attr}")

    def test_attributes_are_assigned_through_local_names(self):
        for path, tree in TREES.items():
            for node in assigned_otherwise(tree):
                self.fail_at(path, node, f"assigns {ast.unparse(node)}")

    def test_the_check_of_assigned_attributes_sees_them(self):
        rows = [
            "def f(a, *, b):\n    c = a.at(1)\n    c.x = b.x = 1\n    for c.y in a:\n        a.x += 1\n",
            "def f(a):\n    a.at(1).x = 1\n",
            "def f(a):\n    a[0].x += 1\n",
            "def f(a):\n    b, (a.b.x, c) = a\n",
            "def f(a):\n    for a.b.x in a:\n        pass\n",
            "def f(a):\n    Box.x = a\n",
            "class Box:\n    @classmethod\n    def f(cls, a):\n        cls.x = a\n",
            "def f(a):\n    del a.x\n",
            "def f(a):\n    b = 1\ndef g(a):\n    b.x = 1\n",
            "def f(a):\n    def g(b):\n        a.x = b\n",
            "b = 1\nb.x = 1\n",
        ]
        found = [[ast.unparse(node) for node in assigned_otherwise(ast.parse(row))] for row in rows]
        others = ["a.at(1).x", "a[0].x", "a.b.x", "a.b.x", "Box.x", "cls.x", "a.x", "b.x", "a.x", "b.x"]
        self.assertEqual(found, [[]] + [[other] for other in others])

    def test_calls(self):
        for path, node in self.each_node():
            if not isinstance(node, ast.Call):
                continue
            function = node.func
            if isinstance(function, ast.Attribute) and function.attr in METHODS and node.keywords:
                self.fail_at(path, node, "keyword of a method")
            if isinstance(function, ast.Name) and function.id in BUILTINS:
                allowed = {"sorted": "key reverse", "min": "key default", "max": "key default", "sum": "start"}
                allowed.update({"enumerate": "start", "zip": "strict"})
                for word in node.keywords:
                    self.assertIn(word.arg, allowed.get(function.id, "").split(), f"{path}:{node.lineno}")
            for argument in node.args:
                self.assertNotIsInstance(argument, ast.Starred, path)

    def test_iterables_stand_where_they_are_iterated(self):
        kept = {"zip", "enumerate", "reversed", "range", "map", "iter", "next"}
        users = {"list", "tuple", "dict", "sorted", "sum", "any", "all", "enumerate", "zip", "min", "max"}
        for path, tree in TREES.items():
            allowed = set()
            for node in ast.walk(tree):
                if isinstance(node, ast.FunctionDef) and node.name == "__iter__":
                    allowed.add(node.body[-1].value)
                if isinstance(node, (ast.For, ast.comprehension)):
                    allowed.add(node.iter)
                if isinstance(node, ast.Call) and isinstance(node.func, ast.Name) and node.func.id in users:
                    allowed |= set(node.args)
                if isinstance(node, ast.Compare) and isinstance(node.ops[0], (ast.In, ast.NotIn)):
                    allowed |= set(node.comparators)
            for node in ast.walk(tree):
                if not isinstance(node, ast.Call):
                    continue
                function = node.func
                named = isinstance(function, ast.Name) and function.id in kept
                view = isinstance(function, ast.Attribute) and function.attr in ("items", "keys", "values")
                if (named or view) and node not in allowed:
                    self.fail_at(path, node, "kept instead of iterated")

    def test_generators_are_iterated_at_once(self):
        names = set()
        for path, node in self.each_node():
            if isinstance(node, ast.FunctionDef) and any(isinstance(part, ast.Yield) for part in ast.walk(node)):
                self.assertIn(node, TREES[path].body, "only functions yield")
                names.add(node.name)
                own = [part for part in ast.walk(node) if isinstance(part, ast.Expr) and isinstance(part.value, ast.Yield)]
                self.assertEqual(len(own), len([part for part in ast.walk(node) if isinstance(part, ast.Yield)]))
                self.assertFalse([part for part in ast.walk(node) if isinstance(part, (ast.Return, ast.Try))])
        self.assertFalse(names & (own_methods() | own_attributes()))
        users = {"list", "tuple", "dict", "sorted", "sum", "any", "all", "enumerate", "zip", "min", "max"}
        for path, tree in TREES.items():
            allowed, called = set(), set()
            for node in ast.walk(tree):
                if isinstance(node, (ast.For, ast.comprehension)):
                    allowed.add(node.iter)
                if isinstance(node, ast.Call) and isinstance(node.func, ast.Name) and node.func.id in users:
                    allowed |= set(node.args)
                if isinstance(node, ast.Call):
                    called.add(node.func)
            for node in ast.walk(tree):
                if isinstance(node, ast.Name) and node.id in names:
                    self.assertIn(node, called, f"{path}:{node.lineno}")
                if isinstance(node, ast.Call) and isinstance(node.func, ast.Name) and node.func.id in names:
                    self.assertIn(node, allowed, f"{path}:{node.lineno}")

    def test_sets(self):
        for path, tree in TREES.items():
            allowed = set()
            for node in ast.walk(tree):
                if isinstance(node, ast.Call) and isinstance(node.func, ast.Name) and node.func.id in ("sorted", "len"):
                    if not node.keywords:
                        allowed |= set(node.args)
                if isinstance(node, ast.Compare):
                    allowed |= set(node.comparators)
            for node in ast.walk(tree):
                made = isinstance(node, ast.Call) and isinstance(node.func, ast.Name)
                if made and node.func.id in ("set", "frozenset") and node not in allowed:
                    self.fail_at(path, node, "set")
                if isinstance(node, ast.SetComp) and node not in allowed:
                    self.fail_at(path, node, "set comprehension")

    def test_loops_do_not_change_what_they_iterate_over(self):
        for path, node in self.each_node():
            if not isinstance(node, ast.For):
                continue
            over = {ast.unparse(part) for part in ast.walk(node.iter) if isinstance(part, (ast.Name, ast.Attribute))}
            for part in [inner for row in node.body for inner in ast.walk(row)]:
                changed = None
                if isinstance(part, ast.Call) and isinstance(part.func, ast.Attribute):
                    if part.func.attr in MODIFYING:
                        changed = ast.unparse(part.func.value)
                if isinstance(part, ast.Subscript) and isinstance(part.ctx, (ast.Store, ast.Del)):
                    changed = ast.unparse(part.value)
                if changed in over:
                    self.fail_at(path, part, f"changes {changed}")

    def test_loops_do_not_change_what_may_be_iterated_over_by_another_name(self):
        for path, function in self.each_node():
            if not isinstance(function, ast.FunctionDef):
                continue
            groups = same_lists(function)
            for loop in ast.walk(function):
                if isinstance(loop, ast.For):
                    over = {groups.get(name, name) for name in iterated_names(loop.iter)}
                    for part, changed in changes_in(loop.body):
                        if over & {groups.get(name, name) for name in value_names(changed)}:
                            self.fail_at(path, part, f"changes what row {loop.lineno} goes over")

    def test_the_check_of_other_names_sees_them(self):
        function = ast.parse("def f(a):\n    b = []\n    for k in a:\n        b.append(k)\n    a = b\n").body[0]
        groups = same_lists(function)
        self.assertEqual(groups["a"], groups["b"])
        loop = function.body[1]
        self.assertEqual(iterated_names(loop.iter), ["a"])
        self.assertEqual([value_names(changed) for _, changed in changes_in(loop.body)], [["b"]])

    def test_only_numbers_are_changed_in_place(self):
        for path, node in self.each_node():
            if isinstance(node, ast.AugAssign):
                counts = isinstance(node.value, ast.Constant) and isinstance(node.value.value, int)
                if not counts or not isinstance(node.op, (ast.Add, ast.Sub)):
                    self.fail_at(path, node, "changed in place")
            if isinstance(node, ast.Call) and isinstance(node.func, ast.Attribute):
                if node.func.attr in ("extend", "update"):
                    self.assertNotEqual(ast.unparse(node.func.value), ast.unparse(node.args[0]), path)

    def test_errors(self):
        own = {"MendedError", "HistoryError"}
        for node in ast.walk(TREES[ROOT / "errors.py"]):
            if isinstance(node, ast.ClassDef):
                own.add(node.name)
        for path, node in self.each_node():
            if isinstance(node, ast.ExceptHandler):
                self.assertIsInstance(node.type, ast.Name)
                self.assertIn(node.type.id, own | {"KeyError", "ZeroDivisionError"}, path)
            if isinstance(node, ast.Raise) and node.exc is not None:
                self.assertIsInstance(node.exc, ast.Call, path)
                self.assertIn(node.exc.func.id, own, path)

    def test_strings(self):
        for path in FILES:
            docs = doc_lines(TREES[path])
            tokens = list(tokenize.generate_tokens(io.StringIO(path.read_text()).readline))
            for token in tokens:
                if token.type != tokenize.STRING:
                    continue
                self.assertNotIn("%", "" if token.start[0] in docs else token.string, f"{path}:{token.start}")
                for escape in re.findall(r"\\(.)", token.string, re.DOTALL):
                    self.assertIn(escape, "nt\\\"'", f"{path}:{token.start}")
                self.assertFalse(re.search(r"\._+[\"']$", token.string))

    def test_words(self):
        for path in FILES:
            docs = doc_lines(TREES[path])
            for token in tokenize.generate_tokens(io.StringIO(path.read_text()).readline):
                if token.type == tokenize.COMMENT or token.start[0] in docs:
                    continue
                for word in re.findall(r"\w+", token.string):
                    self.assertNotIn(word, BAD_WORDS, f"{path}:{token.start}")

    def test_lambdas_stand_alone(self):
        for path, tree in TREES.items():
            lines = [node.lineno for node in ast.walk(tree) if isinstance(node, ast.Lambda)]
            self.assertEqual(len(lines), len(set(lines)), path)


def value_names(value):
    """The names, attributes and items that a value may be."""
    if isinstance(value, (ast.Name, ast.Attribute, ast.Subscript)):
        return [ast.unparse(value)]
    if isinstance(value, ast.IfExp):
        return value_names(value.body) + value_names(value.orelse)
    if isinstance(value, ast.BoolOp):
        return [name for part in value.values for name in value_names(part)]
    return []


def iterated_names(value):
    """The names of what a loop goes over."""
    if isinstance(value, ast.Call) and isinstance(value.func, ast.Name):
        if value.func.id in ("enumerate", "zip", "reversed"):
            return [name for argument in value.args for name in iterated_names(argument)]
    if isinstance(value, ast.Call) and isinstance(value.func, ast.Attribute):
        if value.func.attr in ("items", "keys", "values"):
            return value_names(value.func.value)
    return value_names(value)


def changes_in(rows):
    """The pairs of each node in the rows that changes a list or a dict, and what it changes."""
    found = []
    for part in [inner for row in rows for inner in ast.walk(row)]:
        if isinstance(part, ast.Call) and isinstance(part.func, ast.Attribute) and part.func.attr in MODIFYING:
            found.append((part, part.func.value))
        if isinstance(part, ast.Subscript) and isinstance(part.ctx, (ast.Store, ast.Del)):
            found.append((part, part.value))
    return found


def same_lists(function):
    """For each name that is assigned another one somewhere in a function, a name of the group of all of these."""
    groups = {}
    for node in ast.walk(function):
        for target, value in assigned_pairs(node):
            for one in value_names(target):
                for other in value_names(value):
                    old, new = groups.get(one, one), groups.get(other, other)
                    groups.update({one: old, other: new})
                    groups.update({name: new for name in groups if groups[name] == old})
    return groups


def assigned_pairs(node):
    """The pairs (target, value) of a node, if it is an assignment."""
    if not isinstance(node, ast.Assign):
        return []
    target, value = node.targets[0], node.value
    if isinstance(target, ast.Tuple):
        return list(zip(target.elts, value.elts)) if isinstance(value, ast.Tuple) else []
    return [(target, value)]


def assigned_otherwise(tree, names=()):
    """The attributes that are assigned through anything but a local name, or deleted; names are the local names here."""
    found = []
    for node in ast.iter_child_nodes(tree):
        if isinstance(node, ast.Attribute) and not isinstance(node.ctx, ast.Load):
            local = isinstance(node.value, ast.Name) and node.value.id in names
            if isinstance(node.ctx, ast.Del) or not local:
                found.append(node)
        is_function = isinstance(node, ast.FunctionDef)
        found.extend(assigned_otherwise(node, local_names(node) if is_function else names))
    return found


def local_names(function):
    """The parameters and the local variables of a function, but no name of a class."""
    names = [argument.arg for argument in function.args.args + function.args.kwonlyargs]
    if "classmethod" in [ast.unparse(decorator) for decorator in function.decorator_list]:
        names.pop(0)
    return names + [name for row in function.body for name in stored_names(row)]


def stored_names(node):
    """The names that a node assigns, outside of functions that are nested in it."""
    if isinstance(node, ast.FunctionDef):
        return []
    own = [node.id] if isinstance(node, ast.Name) and isinstance(node.ctx, ast.Store) else []
    return own + [name for part in ast.iter_child_nodes(node) for name in stored_names(part)]


def bound_names(node, methods):
    """Pairs (name, whether it is the name of a method) that a node binds."""
    if isinstance(node, ast.FunctionDef):
        return [(node.name, node.name in methods)]
    if isinstance(node, ast.ClassDef):
        return [(node.name, False)]
    if isinstance(node, ast.Name) and isinstance(node.ctx, ast.Store):
        return [(node.id, False)]
    if isinstance(node, ast.arg):
        return [(node.arg, False)]
    return []


def doc_lines(tree):
    """The first lines of all docstrings."""
    found = set()
    for node in ast.walk(tree):
        if isinstance(node, (ast.Module, ast.ClassDef, ast.FunctionDef)) and ast.get_docstring(node) is not None:
            found.add(node.body[0].lineno)
    return found


if __name__ == "__main__":
    unittest.main()
