"""What LANGUAGE.md says of the files of the package, as far as the code alone shows it."""

import ast
import builtins
import pathlib
import re
import unittest

FOLDER = pathlib.Path(__file__).resolve().parent.parent / "builtahead"
FILES = sorted(FOLDER.glob("*.py"))
LIBRARY = {"math": {"gcd", "lcm", "isqrt", "comb"}, "heapq": {"heappush", "heappop"}}
BUILTINS = set(
    "len range enumerate zip min max sum abs sorted reversed int str bool list tuple dict set isinstance any all divmod "
    "super type property ValueError TypeError KeyError".split()
)
METHODS = set(
    "append clear copy count endswith extend find get index insert isalnum isalpha isdigit islower isspace isupper items "
    "join keys ljust lower lstrip partition pop remove replace reverse rfind rjust rpartition rsplit rstrip setdefault "
    "split splitlines startswith strip update upper values zfill bit_length isascii removeprefix removesuffix add "
    "discard".split()
)
BARRED_NODES = (
    ast.GeneratorExp, ast.Yield, ast.YieldFrom, ast.Await, ast.AsyncFunctionDef, ast.Global, ast.Import, ast.Pow, ast.Div,
    ast.With, ast.NamedExpr, ast.Lambda, ast.Assert, ast.Nonlocal, ast.AnnAssign, ast.Match,
)
DOUBLE = {"__init__", "__len__", "__eq__", "__contains__", "__getitem__", "__iter__"}
# What has a property, an item or an operator changes nothing but what it made itself.
QUIET = DOUBLE - {"__init__"}
BARRED_WORDS = ("typing", "enum", "Enum", "Flag", "Generic", "Protocol", "ABC", "dataclass", "_wall", "_WallAttr", "elements")


def trees():
    return [(path, ast.parse(path.read_text())) for path in FILES]


def functions_of(tree):
    return [node for node in ast.walk(tree) if isinstance(node, ast.FunctionDef)]


def classes_of(tree):
    return [node for node in tree.body if isinstance(node, ast.ClassDef)]


def methods_of(kind):
    return {node.name for node in kind.body if isinstance(node, ast.FunctionDef)} - DOUBLE


def properties_of(kind):
    return {node.name for node in kind.body if isinstance(node, ast.FunctionDef) and node.decorator_list}


def attributes_of(tree):
    """All names that are assigned off an object."""
    return {node.attr for node in ast.walk(tree) if isinstance(node, ast.Attribute) and isinstance(node.ctx, ast.Store)}


def imports_of(tree):
    return [node for node in tree.body if isinstance(node, ast.ImportFrom)]


def bound_names(tree):
    """All names of parameters and variables of the file."""
    names = {node.arg for node in ast.walk(tree) if isinstance(node, ast.arg)}
    return names | {node.id for node in ast.walk(tree) if isinstance(node, ast.Name) and isinstance(node.ctx, ast.Store)}


class LanguageTest(unittest.TestCase):

    def test_the_folder_holds_python_files_alone(self):
        found = [path for path in FOLDER.iterdir() if path.name != "__pycache__"]
        self.assertEqual(sorted(found), FILES)
        self.assertIn(FOLDER / "__init__.py", FILES)

    def test_sizes_and_characters(self):
        for path in FILES:
            lines = path.read_text(encoding="utf-8").split("\n")
            self.assertLessEqual(len(lines) - 1, 399, path)
            for line in lines:
                self.assertLessEqual(len(line), 120, (path, line))
                self.assertTrue(all(" " <= sign <= "~" for sign in line), (path, line))
                self.assertEqual(line, line.rstrip(), (path, line))
        for path, tree in trees():
            for function in functions_of(tree):
                self.assertLessEqual(function.end_lineno - function.lineno + 1, 40, (path, function.name))

    def test_decorators_and_double_underscores(self):
        for path, tree in trees():
            in_classes = [node for kind in classes_of(tree) for node in kind.body if isinstance(node, ast.FunctionDef)]
            for function in functions_of(tree):
                words = [getattr(part, "id", None) for part in function.decorator_list]
                self.assertIn(words, [[], ["property"]] if function in in_classes else [[]], (path, function.name))
                if function.name.startswith("__"):
                    self.assertIn(function, in_classes)
                    self.assertIn(function.name, DOUBLE)
                if words or function.name in QUIET:
                    self.assertLessEqual(len(words), len(function.args.args))
                    for node in ast.walk(function):
                        self.assertNotIsInstance(node, (ast.Assign, ast.AugAssign, ast.Delete, ast.For, ast.While, ast.Try), (path, function.name))
            for kind in classes_of(tree):
                names = [node.name for node in kind.body if isinstance(node, ast.FunctionDef)]
                self.assertEqual(len(names), len(set(names)), path)
                if "__getitem__" in names:
                    self.assertIn("__iter__", names)

    def test_errors_that_are_caught(self):
        own = {kind.name for path, tree in trees() if path.name == "errors.py" for kind in classes_of(tree)}
        for path, tree in trees():
            for node in ast.walk(tree):
                if isinstance(node, ast.Try):
                    self.assertFalse(node.finalbody, path)
                if isinstance(node, ast.ExceptHandler):
                    kinds = node.type.elts if isinstance(node.type, ast.Tuple) else [node.type]
                    self.assertTrue({kind.id for kind in kinds} <= own, path)
                    self.assertIsNone(node.name)
                if isinstance(node, ast.Raise):
                    self.assertIsInstance(node.exc, ast.Call, (path, node.lineno))
                    self.assertIn(node.exc.func.id, own | {"TypeError"})
                    self.assertIsNone(node.cause)
                    self.assertFalse(node.exc.keywords)

    def test_stars_in_calls_are_names(self):
        for path, tree in trees():
            for node in ast.walk(tree):
                if isinstance(node, ast.Call):
                    for part in node.args:
                        if isinstance(part, ast.Starred):
                            self.assertIsInstance(part.value, ast.Name, (path, node.lineno))
                    for word in node.keywords:
                        self.assertIsNotNone(word.arg, (path, node.lineno))

    def test_module_level(self):
        kinds = (ast.ImportFrom, ast.FunctionDef, ast.ClassDef, ast.Assign)
        for path, tree in trees():
            self.assertTrue(ast.get_docstring(tree), path)
            names = [node.name for node in tree.body if hasattr(node, "name")]
            for at, node in enumerate(tree.body[1:]):
                self.assertIsInstance(node, kinds, path)
                if isinstance(node, ast.Assign):
                    self.assertIsInstance(node.value, (ast.Constant, ast.Dict), path)
                    if isinstance(node.value, ast.Dict):
                        above = {other.name for other in tree.body[:at + 1] if isinstance(other, ast.FunctionDef)}
                        self.assertTrue(all(isinstance(key, ast.Constant) for key in node.value.keys), path)
                        self.assertTrue(all(isinstance(one, ast.Constant) or one.id in above for one in node.value.values), path)
                    names.append(node.targets[0].id)
            names += [part.name for node in imports_of(tree) for part in node.names]
            self.assertEqual(len(names), len(set(names)), path)

    def test_imports(self):
        defined, above = {}, {}
        for path, tree in trees():
            constants = {node.targets[0].id for node in tree.body if isinstance(node, ast.Assign)}
            defined["builtahead." + path.stem] = constants | {node.name for node in tree.body if hasattr(node, "name")}
        for path, tree in trees():
            used = {node.id for node in ast.walk(tree) if isinstance(node, ast.Name)}
            above["builtahead." + path.stem] = [node.module for node in imports_of(tree) if node.module in defined]
            for node in imports_of(tree):
                self.assertEqual(node.level, 0)
                for part in node.names:
                    self.assertIsNone(part.asname)
                    self.assertIn(part.name, defined.get(node.module, LIBRARY.get(node.module)), path)
                    self.assertIn(part.name, used, f"{path} does not use {part.name}")
        while above:
            free = [file for file in above if not any(other in above for other in above[file])]
            self.assertTrue(free, f"imports go round: {above}")
            above = {file: others for file, others in above.items() if file not in free}

    def test_words_and_nodes(self):
        for path, tree in trees():
            for node in ast.walk(tree):
                self.assertNotIsInstance(node, BARRED_NODES, (path, getattr(node, "lineno", 0)))
                self.assertFalse(isinstance(node, ast.Constant) and isinstance(node.value, float))
                if isinstance(node, ast.Compare) and isinstance(node.ops[0], (ast.Is, ast.IsNot)):
                    right = node.comparators[0]
                    is_kind = isinstance(node.left, ast.Call) and node.left.func.id == "type"
                    self.assertTrue(is_kind or (isinstance(right, ast.Constant) and right.value in (None, True, False)))
            words = {part for node in ast.walk(tree) for part in [getattr(node, "id", ""), getattr(node, "attr", "")]}
            self.assertNotIn("%", "".join(
                node.value for node in ast.walk(tree) if isinstance(node, ast.Constant) and isinstance(node.value, str)
            ))
            for word in BARRED_WORDS:
                self.assertNotIn(word, words, path)

    def test_calls(self):
        own = {name for _, tree in trees() for kind in classes_of(tree) for name in methods_of(kind)}
        self.assertFalse(own & METHODS)
        for path, tree in trees():
            for node in ast.walk(tree):
                if isinstance(node, ast.Name) and hasattr(builtins, node.id):
                    self.assertIn(node.id, BUILTINS, (path, node.lineno))
                if isinstance(node, ast.Call) and isinstance(node.func, ast.Attribute):
                    is_super = isinstance(node.func.value, ast.Call) and getattr(node.func.value.func, "id", "") == "super"
                    self.assertTrue(is_super or node.func.attr in METHODS | own, (path, node.lineno))

    def test_iterated_at_once(self):
        takers = {"list", "tuple", "dict", "sorted", "sum", "any", "all", "enumerate", "zip", "min", "max"}
        for path, tree in trees():
            right = set()
            for node in ast.walk(tree):
                if isinstance(node, (ast.For, ast.comprehension)):
                    right.add(node.iter)
                if isinstance(node, ast.Call) and getattr(node.func, "id", "") in takers:
                    right |= set(node.args)
                if isinstance(node, ast.Compare) and isinstance(node.ops[0], (ast.In, ast.NotIn)):
                    right |= set(node.comparators)
            for node in ast.walk(tree):
                if isinstance(node, ast.Call):
                    is_view = getattr(node.func, "attr", "") in ("items", "keys", "values")
                    if is_view or getattr(node.func, "id", "") in ("zip", "enumerate", "reversed", "range"):
                        self.assertIn(node, right, (path, node.lineno))

    def test_attributes(self):
        for path, tree in trees():
            assigned = attributes_of(tree)
            self.assertFalse(assigned & METHODS, path)
            for kind in classes_of(tree):
                self.assertFalse(assigned & methods_of(kind), path)
        # What one class has as a property no class has as an attribute or as a method.
        kinds = [kind for _, tree in trees() for kind in classes_of(tree)]
        properties = {name for kind in kinds for name in properties_of(kind)}
        self.assertEqual(properties, {"source", "made", "told", "names", "deeds"})
        for kind in kinds:
            self.assertFalse((attributes_of(kind) | methods_of(kind) - properties_of(kind)) & properties, kind.name)
            # An attribute that is read is one that some class assigns.
            read = {node.attr for node in ast.walk(kind) if isinstance(node, ast.Attribute) and node.attr.startswith("_")}
            known = {name for other in kinds for name in attributes_of(other) | methods_of(other)} | DOUBLE
            self.assertTrue(read <= known, (kind.name, read - known))

    def test_names(self):
        for path, tree in trees():
            taken = {part.name for node in imports_of(tree) for part in node.names}
            taken |= {node.name for node in tree.body if isinstance(node, ast.ClassDef)}
            for name in bound_names(tree) | {function.name for function in functions_of(tree)} - DOUBLE:
                self.assertFalse(hasattr(builtins, name), (path, name))
                self.assertNotIn(name, taken, path)
                self.assertFalse(name.startswith("__"), (path, name))
            for node in ast.walk(tree):
                self.assertFalse(isinstance(node, ast.Name) and node.id == "_" and isinstance(node.ctx, ast.Load), path)

    def test_sets(self):
        for path, tree in trees():
            right = set()
            for node in ast.walk(tree):
                if isinstance(node, ast.Call) and getattr(node.func, "id", "") in ("sorted", "len") and not node.keywords:
                    right |= {node.args[0], getattr(node.args[0], "left", None), getattr(node.args[0], "right", None)}
                if isinstance(node, ast.Assign) and isinstance(node.targets[0], ast.Name):
                    right.add(node.value)
            for node in ast.walk(tree):
                is_call = isinstance(node, ast.Call) and getattr(node.func, "id", "") == "set"
                if is_call or isinstance(node, (ast.Set, ast.SetComp)):
                    self.assertIn(node, right, (path, node.lineno))

    def test_each_function_is_told_and_used(self):
        code = "\n".join(path.read_text() for path in FILES)
        listed = (FOLDER.parent / "tests" / "test_interface.py").read_text()
        for path, tree in trees():
            for node in [node for node in ast.walk(tree) if isinstance(node, (ast.FunctionDef, ast.ClassDef))]:
                if node.name != "__init__":
                    self.assertTrue(ast.get_docstring(node), (path, node.name))
                if isinstance(node, ast.FunctionDef) and node in tree.body:
                    is_used = len(re.findall(rf"\b{node.name}\b", code)) > 1
                    self.assertTrue(is_used or node.name + "(" in listed, f"{path}: {node.name} is not used")


if __name__ == "__main__":
    unittest.main()
