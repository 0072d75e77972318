"""The form of the code: what can be seen of the rules L1 to L28 in the source of the package."""

import ast
import builtins
import os
import re
import unittest

FOLDER = os.path.join(os.path.dirname(os.path.dirname(os.path.abspath(__file__))), "comesapart")

BUILTINS = set("""len range enumerate zip min max sum abs sorted reversed int str bool list tuple dict set isinstance
    ord repr any all divmod iter next property staticmethod classmethod super NotImplemented ValueError
    KeyError""".split())
METHODS = set("""append clear copy count endswith extend find get index insert isalnum isalpha isdigit islower isspace
    isupper items join keys ljust lower lstrip partition pop remove replace reverse rfind rjust rpartition rsplit rstrip
    setdefault split splitlines startswith strip update upper values zfill bit_length title capitalize swapcase casefold
    center expandtabs removeprefix removesuffix rindex isascii isdecimal isnumeric istitle isidentifier isprintable
    add discard""".split())
VALUES = (str, int, list, dict, set, tuple, bytes)
DUNDERS = set("""__init__ __eq__ __repr__ __str__ __len__ __enter__ __exit__ __call__ __iter__ __contains__ __add__
    __sub__ __mul__ __rmul__ __and__ __or__ __rshift__ __neg__ __invert__ __bool__""".split())
BUILTIN_NAMES = set(dir(builtins))
LIBRARY = ("from math import gcd",)
BARRED = set("""register mro elements open input law version_info with_traceback add_note type typing enum Enum ABC
    namedtuple dataclass overload contextmanager abstractmethod Protocol Generic""".split())
# The rules allow some generator expressions; the package does without them.
OUTSIDE = (ast.Import, ast.Global, ast.AsyncFunctionDef, ast.AsyncFor, ast.AsyncWith, ast.Await, ast.GeneratorExp,
           ast.AnnAssign, ast.Div)


def read(name):
    with open(os.path.join(FOLDER, name), encoding="utf-8") as file:
        return file.read()


FILES = sorted(name for name in os.listdir(FOLDER) if name != "__pycache__")
SOURCES = {name: read(name) for name in FILES}
TREES = {name: ast.parse(source) for name, source in SOURCES.items()}
NODES = [(name, node) for name, tree in TREES.items() for node in ast.walk(tree)]


def functions(tree):
    return [node for node in ast.walk(tree) if isinstance(node, ast.FunctionDef)]


def bound_names(tree):
    """Return the names that the file assigns, defines or takes as parameters."""
    names = [node.id for node in ast.walk(tree) if isinstance(node, ast.Name) and not isinstance(node.ctx, ast.Load)]
    names += [node.arg for node in ast.walk(tree) if isinstance(node, ast.arg)]
    names += [node.name for node in ast.walk(tree) if isinstance(node, ast.ExceptHandler) and node.name]
    return names


def generators():
    return {function.name for tree in TREES.values() for function in functions(tree)
            if any(isinstance(node, (ast.Yield, ast.YieldFrom)) for node in ast.walk(function))}


class LanguageTests(unittest.TestCase):
    def check_none(self, found):
        self.assertEqual([], [f"{name}:{getattr(node, 'lineno', node)}" for name, node in found])

    def test_files_and_characters(self):
        self.assertIn("__init__.py", FILES)
        self.assertLessEqual(len(FILES), 100)
        for name, source in SOURCES.items():
            self.assertRegex(name, r"^[a-z0-9_]+\.py$")
            self.assertRegex(source, r"\A[ -~\n]*\Z", name)
            self.assertLess(source.count("\n"), 400, name)
            self.assertLessEqual(max(len(line) for line in source.split("\n")), 120, name)

    def test_functions_are_short(self):
        self.check_none([(name, function) for name, tree in TREES.items() for function in functions(tree)
                         if function.end_lineno - function.lineno + 1 > 40])

    def test_module_level(self):
        for name, tree in TREES.items():
            bound = []
            for node in tree.body:
                if isinstance(node, ast.ImportFrom):
                    bound += [alias.name for alias in node.names]
                elif isinstance(node, (ast.FunctionDef, ast.ClassDef)):
                    bound.append(node.name)
                elif isinstance(node, ast.Assign):
                    self.assertEqual(1, len(node.targets))
                    bound.append(node.targets[0].id)
                    ast.literal_eval(node.value)
                else:
                    self.assertIsInstance(node.value, ast.Constant, name)
            self.assertEqual(len(set(bound)), len(bound), name)
            self.assertEqual([], sorted(set(bound) & BUILTIN_NAMES), name)

    def test_imports_name_the_defining_file(self):
        for name, node in NODES:
            if isinstance(node, ast.ImportFrom) and ast.unparse(node) not in LIBRARY:
                self.assertEqual(0, node.level)
                self.assertRegex(node.module, r"^comesapart\.[a-z]+$")
                there = TREES[node.module.split(".")[1] + ".py"].body
                defined = [item.name for item in there if isinstance(item, (ast.FunctionDef, ast.ClassDef))]
                defined += [item.targets[0].id for item in there if isinstance(item, ast.Assign)]
                for alias in node.names:
                    self.assertIsNone(alias.asname)
                    self.assertIn(alias.name, defined)

    def test_every_import_is_used(self):
        for name, tree in TREES.items():
            used = [node.id for node in ast.walk(tree) if isinstance(node, ast.Name)]
            for node in tree.body:
                if isinstance(node, ast.ImportFrom):
                    self.assertEqual([], [alias.name for alias in node.names if alias.name not in used], name)

    def test_no_two_files_import_each_other(self):
        needs = {name: {node.module.split(".")[1] + ".py" for node in tree.body
                        if isinstance(node, ast.ImportFrom) and ast.unparse(node) not in LIBRARY}
                 for name, tree in TREES.items()}
        while needs:
            free = [name for name in needs if not needs[name] & set(needs)]
            self.assertTrue(free, sorted(needs))
            needs = {name: rest for name, rest in needs.items() if name not in free}

    def test_nothing_outside_of_the_subset(self):
        self.check_none([(name, node) for name, node in NODES if isinstance(node, OUTSIDE)])

    def test_annotations(self):
        self.check_none([(name, node) for name, node in NODES
                         if getattr(node, "annotation", None) or getattr(node, "returns", None)])

    def test_decorators(self):
        for name, tree in TREES.items():
            methods = [item for node in ast.walk(tree) if isinstance(node, ast.ClassDef) for item in node.body]
            for function in functions(tree):
                marks = [ast.unparse(mark) for mark in function.decorator_list]
                self.assertIn(marks, [[], ["property"], ["staticmethod"], ["classmethod"]], name)
                self.assertTrue(not marks or function in methods, name)

    def test_double_underscores(self):
        for name, tree in TREES.items():
            for function in functions(tree):
                self.assertTrue(not function.name.startswith("__") or function.name in DUNDERS, function.name)

    def test_builtins(self):
        for name, node in NODES:
            if isinstance(node, ast.Name) and node.id in BUILTIN_NAMES:
                self.assertIn(node.id, BUILTINS, f"{name}:{node.lineno}")
                self.assertIsInstance(node.ctx, ast.Load, f"{name}:{node.lineno}")

    def test_names(self):
        for name, tree in TREES.items():
            taken = [node.name for node in tree.body if isinstance(node, ast.ClassDef)]
            for node in tree.body:
                if isinstance(node, ast.ImportFrom):
                    taken += [alias.name for alias in node.names]
            for bound in bound_names(tree):
                self.assertRegex(bound, r"^(_|_?[A-Za-z][A-Za-z0-9_]*)$", name)
                self.assertNotIn(bound, taken, name)
                self.assertNotIn(bound, BUILTIN_NAMES, name)

    def test_barred_words(self):
        for name, node in NODES:
            for word in (getattr(node, "id", ""), getattr(node, "attr", ""), getattr(node, "name", "")):
                self.assertNotIn(word, BARRED, name)

    def test_methods_of_builtin_values(self):
        for name, node in NODES:
            if isinstance(node, ast.Attribute) and any(hasattr(value, node.attr) for value in VALUES):
                self.assertIn(node.attr, METHODS | {"__init__"}, f"{name}:{node.lineno}")

    def test_strings(self):
        for name, node in NODES:
            if isinstance(node, ast.Constant) and isinstance(node.value, str):
                self.assertNotIn("%", node.value, f"{name}:{node.lineno}")
            if isinstance(node, ast.Constant) and isinstance(node.value, float):
                self.fail(f"{name}:{node.lineno}")
        for name, source in SOURCES.items():
            self.assertEqual([], [found for found in re.findall(r"\\.", source) if found not in (r"\n", r"\t")], name)

    def test_comparisons_with_is(self):
        for name, node in NODES:
            if isinstance(node, ast.Compare):
                for sign, right in zip(node.ops, node.comparators):
                    if isinstance(sign, (ast.Is, ast.IsNot)):
                        self.assertIn(ast.unparse(right), ("None", "True", "False"), f"{name}:{node.lineno}")

    def test_errors_that_are_caught_and_raised(self):
        for name, node in NODES:
            if isinstance(node, ast.ExceptHandler):
                self.assertIsNotNone(node.type, name)
                self.assertNotIn(ast.unparse(node.type), BUILTIN_NAMES, name)
            if isinstance(node, ast.Raise) and node.exc is not None:
                self.assertIsInstance(node.exc, ast.Call, name)
                self.assertRegex(ast.unparse(node.exc.func), "^[A-Z]", name)

    def test_iterators_are_not_stored(self):
        barred = {"zip", "enumerate", "reversed"} | generators()
        for name, node in NODES:
            if isinstance(node, (ast.Assign, ast.Return)) and isinstance(node.value, ast.Call):
                called = ast.unparse(node.value.func)
                if called != "iter":
                    self.assertNotIn(called, barred, f"{name}:{node.lineno}")

    def test_sets_are_not_iterated(self):
        for name, node in NODES:
            if isinstance(node, (ast.For, ast.comprehension)):
                self.assertNotIsInstance(node.iter, (ast.Set, ast.SetComp), name)
                self.assertFalse(ast.unparse(node.iter).startswith("set("), name)

    def test_generators_have_names_of_their_own(self):
        names = [function.name for tree in TREES.values() for function in functions(tree)]
        for generator in generators():
            self.assertEqual(1, names.count(generator))
            self.assertNotIn(generator, METHODS)

    def test_names_of_properties_and_class_methods(self):
        marked = [function.name for tree in TREES.values() for function in functions(tree) if function.decorator_list]
        plain = [function.name for tree in TREES.values() for function in functions(tree)
                 if not function.decorator_list and function.args.args[:1] and function.args.args[0].arg == "self"]
        stored = [node.attr for _, node in NODES if isinstance(node, ast.Attribute) and isinstance(node.ctx, ast.Store)]
        self.assertEqual([], sorted(set(marked) & (set(plain) | set(stored))))
        self.assertEqual([], sorted(set(plain) & set(stored)))

    def test_attributes_that_are_read_are_assigned(self):
        known = {node.attr for _, node in NODES if isinstance(node, ast.Attribute) and isinstance(node.ctx, ast.Store)}
        known |= {function.name for tree in TREES.values() for function in functions(tree)}
        known |= {node.targets[0].id for _, cls in NODES if isinstance(cls, ast.ClassDef)
                  for node in cls.body if isinstance(node, ast.Assign)}
        for name, node in NODES:
            if isinstance(node, ast.Attribute) and node.attr not in METHODS:
                self.assertIn(node.attr, known, f"{name}:{node.lineno}")

    def test_parameters_have_plain_default_values(self):
        for name, tree in TREES.items():
            for function in functions(tree):
                for default in function.args.defaults + [item for item in function.args.kw_defaults if item]:
                    ast.literal_eval(default)


if __name__ == "__main__":
    unittest.main()
