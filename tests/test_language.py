"""The package's files keep to a part of LANGUAGE.md: the rules whose numbers stand below, and files, names, imports.

Not looked at here: L9, L11 but for defs that call themselves, L13, L27, L28, of L15 and L17 what needs more than a
name, of L18 all but methods and values of one name, of L19 all but what is taken, of L22 all but isinstance and
keywords.
"""

import ast
import builtins
import pathlib
import re
import unittest

PACKAGE = pathlib.Path(__file__).resolve().parent.parent / "oncedone"

NODES = tuple(getattr(ast, name) for name in (
    "Module Import ImportFrom alias FunctionDef arguments arg Lambda ClassDef Assign AugAssign If While For Return "
    "Break Continue Pass Raise Try ExceptHandler Expr Constant Name Load Store Attribute Subscript Slice List Tuple "
    "Dict Set BinOp UnaryOp BoolOp Compare IfExp Call keyword ListComp comprehension JoinedStr FormattedValue "
    "operator unaryop boolop cmpop"
).split())
NO_NODES = (ast.Div, ast.MatMult, ast.Import)

BUILTINS = (
    "len range enumerate zip min max sum abs sorted reversed int str bool list tuple dict set frozenset isinstance ord "
    "repr any all divmod Exception ValueError TypeError KeyError IndexError LookupError ZeroDivisionError "
    "ArithmeticError OverflowError RuntimeError NotImplementedError AttributeError StopIteration"
).split()

METHODS = (
    "append clear copy count endswith extend find get index insert isalnum isalpha isdigit islower isspace isupper "
    "items join keys ljust lower lstrip partition pop remove replace reverse rfind rjust rpartition rsplit rstrip "
    "setdefault split splitlines startswith strip update upper values zfill bit_length"
).split()

DUNDERS = "__init__ __eq__ __repr__ __str__ __len__".split()

WORDS = (
    "type typing typing_extensions enum Enum IntEnum StrEnum Flag IntFlag Generic Protocol ABC ABCMeta namedtuple "
    "NamedTuple TypedDict TYPE_CHECKING abstractmethod"
).split()
PARTS = ("dataclass", "overload", "contextmanager")
UNUSED = "register mro elements open input version_info with_traceback add_note format format_map".split()
FILES = "test tests testing site conftest sitecustomize usercustomize".split()
WALKED = "zip enumerate reversed range".split()
VIEWS = "items keys values".split()
CHANGES = "append clear extend insert pop remove reverse setdefault update".split()
KEYWORDS = {"sorted": ["key", "reverse"], "min": ["key", "default"], "max": ["key", "default"], "sum": ["start"],
            "enumerate": ["start"], "zip": ["strict"]}
LOOKED_AT = "int str bool list tuple dict".split()
# Methods and values of Python's own texts, numbers, lists, dicts, sets and bytes; L26 lets some names of values be.
PYTHONS = [name for kind in (str, int, list, tuple, dict, set, frozenset, bytes, bytearray) for name in dir(kind)]
FREE_VALUES = "count index title find get join lower upper split strip copy add".split()
FREE_METHODS = ["add", "discard"] + METHODS
WALKERS = "list tuple dict sorted sum any all enumerate zip min max".split()


def sources():
    return [(path, path.read_text(encoding="utf-8")) for path in sorted(PACKAGE.glob("*.py"))]


def bound_names(tree):
    names = []
    for node in ast.walk(tree):
        if isinstance(node, (ast.FunctionDef, ast.ClassDef)):
            names.append(node.name)
        elif isinstance(node, ast.arg):
            names.append(node.arg)
        elif isinstance(node, ast.Name) and isinstance(node.ctx, ast.Store):
            names.append(node.id)
        elif isinstance(node, ast.Attribute) and isinstance(node.ctx, ast.Store):
            names.append(node.attr)
        elif isinstance(node, ast.ExceptHandler) and node.name:
            names.append(node.name)
    return names


def top_names(tree):
    names = []
    for node in tree.body:
        if isinstance(node, (ast.FunctionDef, ast.ClassDef)):
            names.append(node.name)
        elif isinstance(node, ast.Assign):
            names.extend(target.id for target in node.targets)
        elif isinstance(node, ast.ImportFrom):
            names.extend(given.name for given in node.names)
    return names


def taken_names(tree):
    """The classes and imports of a file: no parameter and no local is called like one."""
    names = [node.name for node in tree.body if isinstance(node, ast.ClassDef)]
    return names + [given.name for node in tree.body if isinstance(node, ast.ImportFrom) for given in node.names]


def inner_names(tree):
    """The parameters and locals of a file's defs."""
    names = []
    for node in ast.walk(tree):
        if isinstance(node, (ast.FunctionDef, ast.Lambda)):
            names.extend(inner.arg for inner in ast.walk(node) if isinstance(inner, ast.arg))
            names.extend(
                inner.id for inner in ast.walk(node) if isinstance(inner, ast.Name) and isinstance(inner.ctx, ast.Store)
            )
    return names


def own_values():
    found = []
    for path, text in sources():
        for node in ast.walk(ast.parse(text)):
            if isinstance(node, ast.Attribute) and isinstance(node.ctx, ast.Store):
                found.append(node.attr)
    return found


def called(node):
    return node.func.id if isinstance(node, ast.Call) and isinstance(node.func, ast.Name) else None


def is_walked_at_once(tree, node):
    for other in ast.walk(tree):
        if isinstance(other, (ast.For, ast.comprehension)) and other.iter == node:
            return True
        if called(other) in WALKERS and other.args[:1] == [node]:
            return True
    return False


def is_set_in_place(tree, node):
    for other in ast.walk(tree):
        if called(other) in ("sorted", "len") and other.args == [node] and not other.keywords:
            return True
        if isinstance(other, ast.Compare) and node in [other.left] + other.comparators:
            return True
    return False


def own_methods():
    found = []
    for path, text in sources():
        for node in ast.parse(text).body:
            if isinstance(node, ast.ClassDef):
                found.extend(child.name for child in node.body if isinstance(child, ast.FunctionDef))
    return found


def faults_of_node(node, methods):
    if not isinstance(node, NODES) or isinstance(node, NO_NODES):
        yield "L6, L7: no such form"
    if isinstance(node, ast.Constant) and not isinstance(node.value, (int, str, type(None))):
        yield "L7: no such value"
    if isinstance(node, ast.FunctionDef):
        if node.end_lineno - node.lineno + 1 > 40:
            yield "L10: a def of more than 40 lines"
        if node.returns or any(given.annotation for given in node.args.args):
            yield "L21: an annotation"
    if isinstance(node, (ast.FunctionDef, ast.Lambda)):
        given = node.args
        if given.vararg or given.kwarg or given.kwonlyargs or given.posonlyargs:
            yield "L4: parameters that aren't plain"
    if isinstance(node, (ast.FunctionDef, ast.ClassDef)) and node.decorator_list:
        yield "L4, L5: a decorator"
    if isinstance(node, ast.ClassDef):
        if len(node.bases) > 1 or node.keywords:
            yield "L5: more than one base"
        if not all(isinstance(child, (ast.FunctionDef, ast.Pass)) for child in node.body):
            yield "L5: a value in a class"
    if isinstance(node, ast.Assign) and (len(node.targets) != 1 or isinstance(node.targets[0], (ast.Tuple, ast.List))):
        yield "L6: more than one target"
    if isinstance(node, (ast.For, ast.While)) and node.orelse:
        yield "L6: an else behind a loop"
    if isinstance(node, ast.Try) and node.finalbody:
        yield "L6: finally"
    if isinstance(node, ast.ListComp) and (len(node.generators) != 1 or len(node.generators[0].ifs) > 1):
        yield "L7: a comprehension with more than one for or if"
    if isinstance(node, ast.Name) and isinstance(node.ctx, ast.Load):
        if hasattr(builtins, node.id) and node.id not in BUILTINS:
            yield "L8: a name of Python's own"
    if isinstance(node, ast.Compare) and any(isinstance(sign, (ast.Is, ast.IsNot)) for sign in node.ops):
        sides = [node.left] + node.comparators
        if not any(isinstance(side, ast.Constant) and side.value in (None, True, False) for side in sides):
            yield "L20: is"
    if isinstance(node, ast.Call) and isinstance(node.func, ast.Attribute):
        if node.func.attr not in METHODS + DUNDERS + methods:
            yield "L25: a method"
    if isinstance(node, ast.Attribute) and node.attr in UNUSED:
        yield "L17: a name that is not used"


def changed_within(loop):
    """The names of what the body of a loop changes: by a method that changes, or by giving a part of it a value."""
    names = []
    for node in [inner for row in loop.body for inner in ast.walk(row)]:
        if isinstance(node, ast.Call) and isinstance(node.func, ast.Attribute) and node.func.attr in CHANGES:
            names.append(ast.unparse(node.func.value))
        if isinstance(node, ast.Subscript) and isinstance(node.ctx, ast.Store):
            names.append(ast.unparse(node.value))
        if isinstance(node, ast.AugAssign):
            names.append(ast.unparse(node.target))
    return names


def own_classes():
    return [node.name for path, text in sources() for node in ast.parse(text).body if isinstance(node, ast.ClassDef)]


def faults_of_call(node, classes):
    name = called(node)
    given = [keyword.arg for keyword in node.keywords]
    if name in BUILTINS and [word for word in given if word not in KEYWORDS.get(name, [])]:
        yield "L22: a keyword"
    if isinstance(node.func, ast.Attribute) and node.func.attr in METHODS and given:
        yield "L22: a keyword"
    if name == "isinstance":
        kinds = node.args[1].elts if isinstance(node.args[1], ast.Tuple) else [node.args[1]]
        if any(not isinstance(kind, ast.Name) or kind.id not in LOOKED_AT + classes for kind in kinds):
            yield "L22: isinstance"


class Language(unittest.TestCase):
    def test_there_are_files(self):
        names = [path.name for path, text in sources()]
        for name in (
            "__init__ errors words deeds plans ways runs ready wanted brinks choices shelves moved judge lookers "
            "copies rounds bench texts"
        ).split():
            self.assertIn(name + ".py", names)

    def test_files(self):
        for path in PACKAGE.iterdir():
            if path.name != "__pycache__":
                self.assertRegex(path.name, r"\A(__init__|__main__|[a-z][a-z0-9_]*)\.py\Z")
                self.assertNotIn(path.stem, FILES + WORDS + dir(builtins))
                self.assertFalse(path.stem.startswith("test_"))

    def test_signs_and_sizes(self):
        for path, text in sources():
            lines = text.split("\n")
            self.assertLessEqual(len(lines), 401, path.name)
            for number, line in enumerate(lines, 1):
                with self.subTest(file=path.name, line=number):
                    self.assertRegex(line, r"\A[ -~]{0,120}\Z")

    def test_words_that_stand_nowhere(self):
        for path, text in sources():
            found = re.findall(r"[A-Za-z0-9_]+", text)
            self.assertEqual([word for word in found if word in WORDS], [], path.name)
            self.assertEqual([part for part in PARTS if part in text], [], path.name)

    def test_forms(self):
        methods = own_methods()
        for path, text in sources():
            for node in ast.walk(ast.parse(text)):
                told = [(path.name, getattr(node, "lineno", 0), fault) for fault in faults_of_node(node, methods)]
                self.assertEqual(told, [])

    def test_rows_by_themselves(self):
        for path, text in sources():
            tree = ast.parse(text)
            self.assertIsNotNone(ast.get_docstring(tree), path.name)
            for node in ast.walk(tree):
                if isinstance(node, ast.Expr) and node != tree.body[0]:
                    self.assertIsInstance(node.value, ast.Call, (path.name, node.lineno))
            for node in tree.body[1:]:
                self.assertIsInstance(node, (ast.ImportFrom, ast.FunctionDef, ast.ClassDef, ast.Assign), path.name)

    def test_names(self):
        for path, text in sources():
            tree = ast.parse(text)
            for name in bound_names(tree):
                with self.subTest(file=path.name, name=name):
                    self.assertTrue(name in DUNDERS or re.match(r"\A[A-Za-z][A-Za-z0-9_]*\Z", name))
                    self.assertNotIn(name, UNUSED + dir(builtins))
            names = top_names(tree)
            self.assertEqual(len(names), len(set(names)), path.name)

    def test_no_local_is_called_like_a_class_or_an_import(self):
        for path, text in sources():
            tree = ast.parse(text)
            self.assertEqual([name for name in inner_names(tree) if name in taken_names(tree)], [], path.name)

    def test_no_name_is_a_method_and_a_value(self):
        methods = own_methods()
        self.assertEqual([name for name in own_values() if name in methods], [])

    def test_walked_at_once_and_sets_in_place(self):
        for path, text in sources():
            tree = ast.parse(text)
            for node in ast.walk(tree):
                view = isinstance(node, ast.Call) and isinstance(node.func, ast.Attribute) and node.func.attr in VIEWS
                if view or called(node) in WALKED:
                    self.assertTrue(is_walked_at_once(tree, node), (path.name, node.lineno))
                if called(node) in ("set", "frozenset"):
                    self.assertTrue(is_set_in_place(tree, node), (path.name, node.lineno))

    def test_no_loop_changes_what_it_walks(self):
        for path, text in sources():
            for node in ast.walk(ast.parse(text)):
                if isinstance(node, ast.For):
                    walked = [ast.unparse(inner) for inner in ast.walk(node.iter)]
                    found = [name for name in changed_within(node) if name in walked]
                    self.assertEqual(found, [], (path.name, node.lineno))

    def test_what_is_taken_and_how_pythons_own_are_called(self):
        classes = own_classes()
        for path, text in sources():
            for node in ast.walk(ast.parse(text)):
                if isinstance(node, ast.ExceptHandler):
                    self.assertIsInstance(node.type, ast.Name, (path.name, node.lineno))
                    self.assertIn(node.type.id, classes, (path.name, node.lineno))
                if isinstance(node, ast.Call):
                    self.assertEqual(list(faults_of_call(node, classes)), [], (path.name, node.lineno))

    def test_names_of_methods_and_values(self):
        for name in own_methods():
            self.assertTrue(name in DUNDERS or name not in PYTHONS or name in FREE_METHODS, name)
        for name in own_values():
            self.assertTrue(name not in PYTHONS or name in FREE_VALUES, name)
            self.assertNotIn(name, ("args", "encode", "format", "with_traceback"))

    def test_no_def_calls_itself(self):
        for path, text in sources():
            for node in ast.walk(ast.parse(text)):
                if isinstance(node, ast.FunctionDef):
                    calls = [called(inner) for inner in ast.walk(node)]
                    self.assertNotIn(node.name, calls, path.name)

    def test_imports(self):
        trees = {"oncedone." + path.stem: ast.parse(text) for path, text in sources()}
        draws = {}
        for module, tree in trees.items():
            draws[module] = []
            for node in ast.walk(tree):
                if isinstance(node, ast.ImportFrom):
                    self.assertEqual(node.level, 0, module)
                    self.assertIn(node.module, trees, module)
                    defined = bound_names(trees[node.module])
                    for given in node.names:
                        self.assertIn(given.name, defined, module)
                        self.assertIsNone(given.asname, module)
                    draws[module].append(node.module)
        while draws:
            free = [module for module in draws if not any(other in draws for other in draws[module])]
            self.assertNotEqual(free, [], "files that draw from one another")
            for module in free:
                draws.pop(module)


if __name__ == "__main__":
    unittest.main()
