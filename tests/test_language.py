"""The rules for the code of the package, as far as they can be seen in its syntax trees.

Where a rule lets several forms, these tests often let only those that the package uses.
"""

import ast
import builtins
import re
import unittest
from functools import cache
from pathlib import Path

PACKAGE = Path(__file__).resolve().parent.parent / "meantrace"
LIBRARY = {"math": {"gcd", "lcm", "isqrt", "comb", "perm", "factorial"},
           "heapq": {"heappush", "heappop", "heapify", "heapreplace", "heappushpop"}}
BUILTINS = set(
    "len range enumerate zip min max sum abs sorted reversed int str bool list tuple dict set isinstance ord "
    "repr any all divmod super ValueError".split()
)
METHODS = set(
    "append clear copy count endswith extend find get index insert isalnum isalpha isdigit islower isspace "
    "isupper items join keys ljust lower lstrip partition pop remove replace reverse rfind rjust rpartition "
    "rsplit rstrip setdefault split splitlines startswith strip update upper values zfill bit_length".split()
)
UNUSED = set(
    "mro elements open input law version_info with_traceback add_note register attrgetter breakpoint builtins "
    "compile copyright credits delattr dir eval exec exit gc getattr globals hasattr help id importlib license "
    "locals methodcaller os quit setattr type vars sys format format_map _cold _tuplegetter _outside _record "
    "_written_out _member_names".split()
)
DOUBLE = {"__init__", "__enter__", "__exit__", "__call__"}
WORDS = ("typing", "enum", "dataclass", "overload", "contextmanager", "namedtuple", "_wall", "_WallAttr")
STATEMENTS = (
    ast.Assign, ast.AugAssign, ast.If, ast.While, ast.For, ast.Return, ast.Break, ast.Continue, ast.Pass,
    ast.Raise, ast.With, ast.Expr, ast.Try, ast.FunctionDef, ast.ClassDef, ast.ImportFrom,
)


def files():
    return sorted(PACKAGE.rglob("*.py"))


@cache
def trees():
    return {path.stem: ast.parse(path.read_text()) for path in files()}


def nodes(kind):
    """All nodes of a kind in the package, with the names of their files."""
    return [(name, node) for name, tree in trees().items() for node in ast.walk(tree) if isinstance(node, kind)]


def functions():
    return nodes(ast.FunctionDef)


def bound_in(node):
    """The names that a function binds: its parameters and its targets."""
    words = [arg.arg for arg in [*node.args.args, *node.args.kwonlyargs]]
    words += [part.id for part in ast.walk(node)
              if isinstance(part, ast.Name) and isinstance(part.ctx, ast.Store)]
    return words


class Files(unittest.TestCase):
    def test_the_folder_contains_nothing_else(self):
        self.assertLessEqual(len(files()), 100)
        for path in PACKAGE.rglob("*"):
            if path.name != "__pycache__" and path.parent.name != "__pycache__":
                self.assertEqual(path.suffix, ".py", path)
                self.assertRegex(path.name, r"^([a-z][a-z0-9]*|__init__|__main__)\.py$")

    def test_sizes_and_characters(self):
        for path in files():
            text = path.read_text()
            lines = text.split("\n")
            self.assertLessEqual(len(lines) - 1, 399, path)
            self.assertLessEqual(max(len(line) for line in lines), 120, path)
            self.assertEqual([sign for sign in text if sign != "\n" and not " " <= sign <= "~"], [])
            self.assertEqual([word for word in WORDS if re.search(rf"\b{word}\b", text)], [])
        for name, node in functions():
            self.assertLessEqual(node.end_lineno - node.lineno + 1, 40, (name, node.name))

    def test_every_file_class_and_function_has_a_docstring(self):
        for name, tree in trees().items():
            self.assertTrue(ast.get_docstring(tree), name)
        for name, node in functions():
            setter = any(isinstance(part, ast.Attribute) for part in node.decorator_list)
            if node.name not in DOUBLE and not setter:
                self.assertTrue(ast.get_docstring(node), (name, node.name))


class Imports(unittest.TestCase):
    def test_imports_name_the_file_that_defines_the_name(self):
        package = trees()
        self.assertEqual(nodes(ast.Import), [])
        for name, node in nodes(ast.ImportFrom):
            self.assertEqual(node.level, 0)
            self.assertTrue(all(alias.asname is None for alias in node.names))
            words = {alias.name for alias in node.names}
            if node.module in LIBRARY:
                self.assertLessEqual(words, LIBRARY[node.module])
                continue
            head, _, source = node.module.partition(".")
            self.assertEqual(head, "meantrace")
            self.assertLessEqual(words, self.defined(package[source]), (name, node.module))

    def defined(self, tree):
        found = set()
        for node in tree.body:
            if isinstance(node, (ast.FunctionDef, ast.ClassDef)):
                found.add(node.name)
            if isinstance(node, ast.Assign):
                found.add(node.targets[0].id)
        return found

    def test_imports_stand_at_the_top_and_are_used(self):
        for name, tree in trees().items():
            kinds = [isinstance(node, ast.ImportFrom) for node in tree.body[1:]]
            self.assertEqual(kinds, sorted(kinds, reverse=True), name)
            used = {node.id for node in ast.walk(tree) if isinstance(node, ast.Name)}
            for node in tree.body:
                if isinstance(node, ast.ImportFrom):
                    self.assertLessEqual({alias.name for alias in node.names}, used, name)

    def test_no_two_files_import_from_each_other(self):
        links = {name: set() for name in trees()}
        for name, node in nodes(ast.ImportFrom):
            if node.module.startswith("meantrace."):
                links[name].add(node.module.partition(".")[2])
        while links:
            free = [name for name, sources in links.items() if not sources & set(links)]
            self.assertTrue(free, links)
            for name in free:
                del links[name]


class Modules(unittest.TestCase):
    def test_module_level(self):
        for name, tree in trees().items():
            bound = []
            for node in tree.body[1:]:
                self.assertIsInstance(node, (ast.ImportFrom, ast.FunctionDef, ast.ClassDef, ast.Assign), name)
                if isinstance(node, ast.Assign):
                    self.assertEqual(len(node.targets), 1)
                    bound.append(node.targets[0].id)
                    self.check_plain(node.value, set(bound), inside=False)
                elif isinstance(node, ast.ImportFrom):
                    bound.extend(alias.name for alias in node.names)
                else:
                    bound.append(node.name)
            self.assertEqual(len(bound), len(set(bound)), name)

    def check_plain(self, node, known, inside):
        if isinstance(node, ast.Name):
            self.assertIn(node.id, known)
        elif isinstance(node, ast.Tuple):
            for part in node.elts:
                self.check_plain(part, known, True)
        elif isinstance(node, ast.Dict):
            self.assertFalse(inside)
            for part in [*node.keys, *node.values]:
                self.check_plain(part, known, True)
        else:
            self.assertIsInstance(node, ast.Constant)

    def test_statements(self):
        for name, node in nodes(ast.stmt):
            self.assertIsInstance(node, STATEMENTS, name)

    def test_sets_are_only_counted(self):
        counted = [node.args[0] for _, node in nodes(ast.Call)
                   if isinstance(node.func, ast.Name) and node.func.id in ("len", "sorted")]
        for name, node in nodes(ast.SetComp):
            self.assertIn(node, counted, name)

    def test_no_set_no_float_no_lambda_no_division(self):
        for kind in (ast.Set, ast.Lambda, ast.Div, ast.NamedExpr, ast.Await, ast.Global, ast.Nonlocal,
                     ast.AnnAssign, ast.Delete, ast.Assert, ast.YieldFrom):
            self.assertEqual(nodes(kind), [])
        for name, node in nodes(ast.BinOp):
            if isinstance(node.op, ast.Pow):
                self.assertIn(node.right.value, range(65), name)
        for name, node in nodes(ast.Constant):
            self.assertIsInstance(node.value, (int, str, type(None)), name)
            if isinstance(node.value, str):
                self.assertNotIn("%", node.value)

    def test_no_star_in_an_index(self):
        for name, node in nodes(ast.Subscript):
            self.assertEqual([part for part in ast.walk(node.slice) if isinstance(part, ast.Starred)], [], name)

    def test_stars_stand_in_literals_and_calls(self):
        let = [part for _, node in nodes((ast.List, ast.Tuple)) for part in node.elts]
        let += [part for _, node in nodes(ast.Call) for part in node.args]
        for name, node in nodes(ast.Starred):
            self.assertIn(node, let, name)


class Names(unittest.TestCase):
    def test_names_have_no_second_meaning(self):
        for name, tree in trees().items():
            taken = set(dir(builtins)) | UNUSED
            for node in tree.body:
                if isinstance(node, ast.ImportFrom):
                    taken |= {alias.name for alias in node.names}
                if isinstance(node, ast.ClassDef):
                    taken.add(node.name)
                if isinstance(node, ast.FunctionDef):
                    self.assertNotIn(node.name, set(dir(builtins)) | UNUSED)
            for node in ast.walk(tree):
                if isinstance(node, ast.FunctionDef):
                    self.assertEqual(taken & set(bound_in(node)), set(), (name, node.name))
                    self.assertFalse(node.name in UNUSED)

    def test_double_underscores(self):
        for name, node in functions():
            if node.name.startswith("_"):
                self.assertIn(node.name, DOUBLE, name)
        for name, node in nodes(ast.Attribute):
            if node.attr.startswith("_"):
                self.assertEqual(node.attr, "__init__")
                self.assertEqual(ast.unparse(node.value), "super()")

    def test_the_underscore_is_never_read(self):
        for name, node in nodes(ast.Name):
            if node.id == "_":
                self.assertIsInstance(node.ctx, ast.Store, name)

    def test_builtins(self):
        for name, tree in trees().items():
            own = {node.name for node in tree.body if isinstance(node, (ast.FunctionDef, ast.ClassDef))}
            for node in tree.body:
                if isinstance(node, ast.ImportFrom):
                    own |= {alias.name for alias in node.names}
            for node in ast.walk(tree):
                if isinstance(node, ast.Name) and isinstance(node.ctx, ast.Load) and hasattr(builtins, node.id):
                    self.assertIn(node.id, BUILTINS | {"property", "classmethod"}, name)


class Classes(unittest.TestCase):
    def setUp(self):
        self.methods, self.properties = set(), set()
        for _, node in nodes(ast.ClassDef):
            for part in node.body:
                if isinstance(part, ast.FunctionDef):
                    words = [ast.unparse(row) for row in part.decorator_list]
                    (self.properties if "property" in words else self.methods).add(part.name)
        self.methods -= self.properties
        self.stored = {node.attr for _, node in nodes(ast.Attribute) if isinstance(node.ctx, ast.Store)}

    def test_bodies_of_classes(self):
        for name, node in nodes(ast.ClassDef):
            self.assertEqual(node.decorator_list, [])
            for part in node.body[1:]:
                self.assertIsInstance(part, ast.FunctionDef, name)
                for row in part.decorator_list:
                    self.assertIn(ast.unparse(row), ("property", "classmethod", f"{part.name}.setter"))

    def test_no_name_is_a_method_and_an_attribute(self):
        self.assertEqual(self.methods & self.stored, set())
        self.assertEqual(self.properties & self.stored, set())
        self.assertEqual(self.methods & METHODS, set())
        for kind in (str, int, list, dict, tuple, set, bytes):
            self.assertEqual((self.methods - DOUBLE) & set(dir(kind)), set())
            self.assertEqual(self.stored & set(dir(kind)), set())

    def test_attributes_that_are_read_are_assigned(self):
        own = self.methods | self.properties | self.stored
        called = {id(node.func) for _, node in nodes(ast.Call) if isinstance(node.func, ast.Attribute)}
        for name, node in nodes(ast.Attribute):
            if id(node) in called:
                self.assertIn(node.attr, own | METHODS, name)
            elif node.attr != "setter":
                self.assertIn(node.attr, self.stored | self.properties, name)

    def test_names_of_generators(self):
        """The interface gives `played` to two classes; where a name is one of a generator, all are generators."""
        generators = [node for _, node in functions() if any(isinstance(part, ast.Yield) for part in ast.walk(node))]
        names = {node.name for node in generators}
        for name, node in functions():
            self.assertEqual(node.name in names, node in generators, name)
        for node in generators:
            self.assertFalse([part for part in ast.walk(node) if isinstance(part, (ast.Try, ast.With))])

    def test_is(self):
        for name, node in nodes(ast.Compare):
            for sign, right in zip(node.ops, node.comparators):
                if isinstance(sign, (ast.Is, ast.IsNot)):
                    self.assertIsNone(right.value, name)

    def test_errors(self):
        kinds = {node.name for name, node in nodes(ast.ClassDef) if name == "errors"}
        for name, node in nodes(ast.ExceptHandler):
            self.assertIn(ast.unparse(node.type), kinds, name)
        for name, node in nodes(ast.Raise):
            self.assertIsInstance(node.exc, ast.Call, name)
            self.assertIn(node.exc.func.id, kinds, name)

    def test_calls_pass_what_is_taken(self):
        known = {}
        for _, node in functions():
            known.setdefault(node.name, []).append(node)
        for name, node in nodes(ast.Call):
            word = node.func.attr if isinstance(node.func, ast.Attribute) else getattr(node.func, "id", None)
            for other in known.get(word, []):
                many = [arg.arg for arg in other.args.args]
                own = many[:1] in (["self"], ["cls"])
                if word not in DOUBLE and own == isinstance(node.func, ast.Attribute):
                    self.assertEqual(len(node.args), len(many) - own, (name, word))


if __name__ == "__main__":
    unittest.main()
