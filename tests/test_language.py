"""The rules of the language that can be seen from the code: sizes, imports, names, statements, calls."""

import ast
import builtins
import pathlib
import re
import unittest

FOLDER = pathlib.Path(__file__).resolve().parent.parent / "budwright"
FILES = sorted(FOLDER.glob("*.py"))

ALLOWED_BUILTINS = set("""len range enumerate zip min max sum abs sorted reversed int str bool bytes list tuple dict set
frozenset isinstance ord repr any all divmod iter next super Exception ValueError TypeError KeyError IndexError
LookupError ZeroDivisionError ArithmeticError OverflowError RuntimeError NotImplementedError AttributeError
StopIteration NotImplemented""".split())
DUNDERS = {"__init__", "__eq__", "__repr__", "__str__", "__len__", "__enter__", "__exit__", "__call__", "__iter__"}
BUILTIN_METHODS = set("""append clear copy count endswith extend find get index insert isalnum isalpha isdigit islower
isspace isupper items join keys ljust lower lstrip partition pop remove replace reverse rfind rjust rpartition rsplit
rstrip setdefault split splitlines startswith strip update upper values zfill bit_length add discard""".split())
BARRED_WORDS = re.compile(r"\b(type|typing|typing_extensions|enum|Enum|IntEnum|StrEnum|Flag|IntFlag|Generic|Protocol"
                          r"|ABC|ABCMeta|namedtuple|NamedTuple|TypedDict|TYPE_CHECKING|abstractmethod)\b"
                          r"|dataclass|overload|contextmanager")
BARRED_NAMES = set("""register mro elements open input law version_info with_traceback add_note attrgetter breakpoint
builtins compile copyright credits delattr dir eval exec exit gc getattr globals hasattr help id importlib license
locals methodcaller os quit setattr super type vars sys""".split())
STATEMENTS = (ast.Assign, ast.AugAssign, ast.AnnAssign, ast.If, ast.While, ast.For, ast.Return, ast.Break, ast.Continue,
              ast.Pass, ast.Raise, ast.Assert, ast.Delete, ast.Nonlocal, ast.Match, ast.With, ast.Try, ast.Expr,
              ast.FunctionDef, ast.ClassDef, ast.ImportFrom)
AT_ONCE = {"zip", "enumerate", "reversed", "range"}
TAKERS = {"list", "tuple", "dict", "sorted", "sum", "any", "all", "enumerate", "zip", "min", "max"}


def is_docstring(node):
    return isinstance(node, ast.Expr) and isinstance(node.value, ast.Constant) and isinstance(node.value.value, str)


class Source:
    def __init__(self, path):
        self.path = path
        self.text = path.read_text(encoding="utf-8")
        self.tree = ast.parse(self.text)
        self.nodes = list(ast.walk(self.tree))
        self.parents = {child: node for node in self.nodes for child in ast.iter_child_nodes(node)}
        self.functions = [node for node in self.nodes if isinstance(node, ast.FunctionDef)]
        self.classes = [node for node in self.nodes if isinstance(node, ast.ClassDef)]
        self.imports = [node for node in self.nodes if isinstance(node, ast.ImportFrom)]

    def defined(self):
        names = [node.name for node in self.tree.body if isinstance(node, (ast.FunctionDef, ast.ClassDef))]
        return names + [node.targets[0].id for node in self.tree.body if isinstance(node, ast.Assign)]

    def imported(self):
        return [alias.name for node in self.imports for alias in node.names]

    def bound(self):
        """Names of parameters and of what is assigned in functions."""
        names = [node.arg for node in self.nodes if isinstance(node, ast.arg)]
        names += [node.id for node in self.nodes if isinstance(node, ast.Name) and isinstance(node.ctx, ast.Store)]
        return names


SOURCES = [Source(path) for path in FILES]


class LanguageTest(unittest.TestCase):
    def each(self, kind):
        for source in SOURCES:
            for node in source.nodes:
                if isinstance(node, kind):
                    yield source, node, self.subTest(f"{source.path.name}:{node.lineno}")

    def test_files(self):
        self.assertTrue((FOLDER / "__init__.py").exists())
        for path in FOLDER.iterdir():
            if path.name != "__pycache__":
                self.assertRegex(path.name, r"^[a-z0-9_]+\.py$")

    def test_characters_and_sizes(self):
        for source in SOURCES:
            with self.subTest(source.path.name):
                self.assertRegex(source.text, r"\A[\n -~]*\Z")
                lines = source.text.split("\n")
                self.assertLess(len(lines), 400)
                self.assertLessEqual(max(map(len, lines)), 120)
                self.assertNotIn("%", "".join(node.value for node in source.nodes if isinstance(node, ast.Constant)
                                              and isinstance(node.value, str)))
                self.assertIsNone(BARRED_WORDS.search(source.text))
                for node in source.functions:
                    self.assertLessEqual(node.end_lineno - node.lineno + 1, 40)

    def test_imports_name_the_file_that_defines_the_name(self):
        defined = {f"budwright.{source.path.stem}": source.defined() for source in SOURCES}
        for source, node, here in self.each((ast.Import, ast.ImportFrom)):
            with here:
                self.assertIsInstance(node, ast.ImportFrom)
                self.assertEqual(node.level, 0)
                self.assertIn(source.parents[node], (source.tree,))
                for alias in node.names:
                    self.assertIsNone(alias.asname)
                    self.assertIn(alias.name, defined[node.module])
                    used = [name.id for name in source.nodes if isinstance(name, ast.Name)]
                    self.assertIn(alias.name, used)

    def test_imports_make_no_ring(self):
        left = {f"budwright.{source.path.stem}": {node.module for node in source.imports} for source in SOURCES}
        while left:
            free = [name for name, wanted in left.items() if not wanted & set(left)]
            self.assertTrue(free, left)
            left = {name: wanted for name, wanted in left.items() if name not in free}

    def test_module_level(self):
        for source in SOURCES:
            bound = source.defined() + source.imported()
            self.assertEqual(len(bound), len(set(bound)))
            for node in source.tree.body:
                self.assertTrue(isinstance(node, (ast.ImportFrom, ast.FunctionDef, ast.ClassDef, ast.Assign))
                                or is_docstring(node))

    def test_statements(self):
        for source, node, here in self.each(ast.stmt):
            with here:
                self.assertIsInstance(node, STATEMENTS)
                if isinstance(node, ast.Expr):
                    self.assertTrue(is_docstring(node) or isinstance(node.value, ast.Call))

    def test_functions(self):
        for source, node, here in self.each((ast.FunctionDef, ast.Lambda)):
            with here:
                self.assertEqual(node.args.posonlyargs, [])
                self.assertEqual(getattr(node, "decorator_list", []), [])
        for source, node, here in self.each(ast.ClassDef):
            with here:
                self.assertEqual(node.decorator_list, [])
                self.assertIs(source.parents[node], source.tree)
                for row in node.body:
                    self.assertTrue(isinstance(row, ast.FunctionDef) or is_docstring(row))

    def test_names(self):
        known = set(dir(builtins))
        for source in SOURCES:
            methods = [row.name for node in source.classes for row in node.body if isinstance(row, ast.FunctionDef)]
            functions = [node.name for node in source.functions if node.name not in methods]
            classes = [node.name for node in source.classes]
            attributes = [node.attr for node in source.nodes if isinstance(node, ast.Attribute)]
            with self.subTest(source.path.name):
                for name in source.bound() + functions + classes + source.imported():
                    self.assertRegex(name, r"^[A-Za-z][A-Za-z0-9_]*$")
                    self.assertNotIn(name, known)
                    self.assertNotIn(name, BARRED_NAMES)
                for name in methods + attributes:
                    self.assertTrue(name in DUNDERS or re.match(r"^[A-Za-z][A-Za-z0-9_]*$", name), name)
                inside = [name for name in source.bound() if name in classes + source.imported()]
                self.assertEqual(inside, [])

    def test_no_name_is_a_method_here_and_an_attribute_there(self):
        methods, attributes = set(), set()
        for source in SOURCES:
            methods |= {row.name for node in source.classes for row in node.body if isinstance(row, ast.FunctionDef)}
            attributes |= {node.attr for node in source.nodes
                           if isinstance(node, ast.Attribute) and isinstance(node.ctx, ast.Store)}
        self.assertEqual(methods & attributes, set())
        self.assertEqual(attributes & BUILTIN_METHODS, set())

    def test_builtins_and_methods(self):
        methods = {row.name for source in SOURCES for node in source.classes for row in node.body
                   if isinstance(row, ast.FunctionDef)}
        for source, node, here in self.each(ast.Name):
            with here:
                if hasattr(builtins, node.id):
                    self.assertIn(node.id, ALLOWED_BUILTINS)
        for source, node, here in self.each(ast.Call):
            with here:
                if isinstance(node.func, ast.Attribute):
                    self.assertIn(node.func.attr, BUILTIN_METHODS | methods)

    def test_expressions(self):
        barred = (ast.GeneratorExp, ast.Await, ast.JoinedStr, ast.Set, ast.SetComp, ast.Yield, ast.YieldFrom)
        for source, node, here in self.each(ast.expr):
            with here:
                if isinstance(node, ast.JoinedStr):
                    self.assertFalse([part for part in node.values if getattr(part, "format_spec", None)])
                else:
                    self.assertNotIsInstance(node, barred)
                if isinstance(node, ast.Constant):
                    self.assertIsInstance(node.value, (int, str, bool, type(None)))
                if isinstance(node, ast.BinOp):
                    self.assertNotIsInstance(node.op, (ast.Div, ast.MatMult))
                    if isinstance(node.op, ast.Pow):
                        self.assertIsInstance(node.right, ast.Constant)
                        self.assertIn(node.right.value, range(65))
                if isinstance(node, ast.Compare):
                    for sign, side in zip(node.ops, node.comparators):
                        if isinstance(sign, (ast.Is, ast.IsNot)):
                            self.assertIn(ast.unparse(side), ("None", "True", "False"))

    def test_what_is_iterated_at_once(self):
        for source, node, here in self.each(ast.Call):
            with here:
                named = isinstance(node.func, ast.Name) and node.func.id in AT_ONCE
                asked = isinstance(node.func, ast.Attribute) and node.func.attr in ("items", "keys", "values")
                if not named and not asked:
                    continue
                around = source.parents[node]
                if isinstance(around, ast.Call):
                    taker = around.func.id if isinstance(around.func, ast.Name) else around.func.attr
                    self.assertIn(taker, TAKERS | {"join"})
                else:
                    self.assertIsInstance(around, (ast.For, ast.comprehension))
                    self.assertIs(around.iter, node)

    def test_raise_makes_its_error_on_the_spot(self):
        errors = {node.name for source in SOURCES if source.path.stem == "errors" for node in source.classes}
        for source, node, here in self.each(ast.Raise):
            with here:
                self.assertIsInstance(node.exc, ast.Call)
                self.assertIn(node.exc.func.id, errors)

    def test_texts_end_in_a_return(self):
        for source, node, here in self.each(ast.FunctionDef):
            with here:
                if node.name in ("__eq__", "__len__", "__str__", "__repr__"):
                    self.assertEqual([type(row) for row in node.body if not is_docstring(row)], [ast.Return])
                    told = ast.unparse(node.body[-1].value)
                    if node.name == "__len__":
                        self.assertRegex(told, r"^len\(")
                    if node.name in ("__str__", "__repr__"):
                        self.assertRegex(told, r"^(f['\"]|str\(|repr\(|'[^']*'\.join\()")


if __name__ == "__main__":
    unittest.main()
