"""The rules of ../shared/LANGUAGE.md that can be seen from the text of a file alone."""

import ast
import builtins
import pathlib
import re
import tokenize
import unittest

import rowclash

PACKAGE = pathlib.Path(rowclash.__file__).parent
FILES = sorted(path for path in PACKAGE.rglob("*") if "__pycache__" not in path.parts and path.is_file())
BUILTINS = set(
    "len range enumerate zip min max sum abs sorted reversed int str bool bytes list tuple dict set frozenset"
    " isinstance ord repr any all divmod iter next map property staticmethod classmethod super Exception"
    " ValueError TypeError KeyError IndexError LookupError ZeroDivisionError ArithmeticError OverflowError"
    " RuntimeError NotImplementedError AttributeError StopIteration NotImplemented".split()
)
LIBRARY = {
    "heapq": {"heappush", "heappop", "heapify", "heapreplace", "heappushpop"},
    "math": {"gcd", "lcm", "isqrt", "comb", "perm", "factorial"},
    "itertools": {"product", "combinations", "permutations"},
}
BARRED_NAMES = set(
    "register mro elements open input law version_info with_traceback add_note attrgetter breakpoint compile"
    " delattr dir eval exec exit gc getattr globals hasattr help id locals os quit setattr vars".split()
)
BARRED_WORDS = (
    "typing|typing_extensions|enum|Enum|IntEnum|StrEnum|Flag|IntFlag|Generic|Protocol|ABC|ABCMeta|namedtuple"
    "|NamedTuple|TypedDict|TYPE_CHECKING|abstractmethod"
)


def trees():
    return [(path, ast.parse(path.read_text(encoding="utf-8"))) for path in FILES]


def nodes(kind):
    return [(path, node) for path, tree in trees() for node in ast.walk(tree) if isinstance(node, kind)]


def code(path):
    """The names and signs of a file, without its comments and strings."""
    with tokenize.open(path) as lines:
        tokens = list(tokenize.generate_tokens(lines.readline))
    return " ".join(token.string for token in tokens if token.type in (tokenize.NAME, tokenize.OP))


def bound_names():
    """All names that a file gives a meaning: (path, name)."""
    found = [(path, node.id) for path, node in nodes(ast.Name) if isinstance(node.ctx, ast.Store)]
    found += [(path, node.arg) for path, node in nodes(ast.arg)]
    found += [(path, node.name) for path, node in nodes((ast.FunctionDef, ast.ClassDef))]
    found += [(path, alias.asname or alias.name) for path, node in nodes(ast.ImportFrom) for alias in node.names]
    return found


class Language(unittest.TestCase):
    def test_files(self):
        self.assertTrue(FILES)
        for path in FILES:
            with self.subTest(path=path):
                self.assertRegex(path.name, r"^[a-z_][a-z0-9_]*\.py$")
                self.assertTrue((path.parent / "__init__.py").is_file())

    def test_sizes_and_characters(self):
        for path in FILES:
            lines = path.read_text(encoding="utf-8").split("\n")
            with self.subTest(path=path):
                self.assertLessEqual(len(lines), 399)
                self.assertLessEqual(max(len(line) for line in lines), 120)
                self.assertIsNone(re.search(r"[^ -~]", "".join(lines)))
        for path, node in nodes(ast.FunctionDef):
            self.assertLessEqual(node.end_lineno - node.lineno + 1, 40, (path, node.name))

    def test_imports(self):
        self.assertEqual(nodes(ast.Import), [])
        for path, node in nodes(ast.ImportFrom):
            with self.subTest(path=path, module=node.module):
                names = {alias.name for alias in node.names}
                self.assertEqual(node.level, 0)
                if node.module in LIBRARY:
                    self.assertLessEqual(names, LIBRARY[node.module])
                else:
                    self.assertRegex(node.module, r"^rowclash\.[a-z_]+$")
                    self.assertNotIn("*", names)

    def test_builtins(self):
        every = set(dir(builtins)) - {"_"}
        bound = {name for _, name in bound_names()}
        for path, node in nodes(ast.Name):
            if node.id in every and node.id not in bound:
                self.assertIn(node.id, BUILTINS, path)

    def test_no_name_is_that_of_a_builtin(self):
        every = set(dir(builtins)) - {"_"}
        for path, name in bound_names():
            self.assertNotIn(name, every, path)

    def test_barred_words(self):
        for path in FILES:
            text = path.read_text(encoding="utf-8")
            with self.subTest(path=path):
                self.assertEqual({word for word in re.findall(r"\w+", code(path)) if word in BARRED_NAMES}, set())
                self.assertIsNone(re.search(rf"\b({BARRED_WORDS})\b", text))
                self.assertIsNone(re.search(r"\b_wall\b|_WallAttr|\(type\)|Meta|metaclass=", text))

    def test_no_statement_or_expression_outside_the_subset(self):
        kinds = (
            ast.Global, ast.AsyncFunctionDef, ast.AsyncFor, ast.AsyncWith, ast.Await, ast.TryStar, ast.Div, ast.MatMult,
        )
        self.assertEqual(nodes(kinds), [])
        for path, node in nodes(ast.Constant):
            self.assertNotIsInstance(node.value, (float, complex), path)
            if isinstance(node.value, str):
                self.assertNotIn("%", node.value, path)

    def test_generator_expressions_stand_where_no_object_is_asked_to_be_equal(self):
        # Classes have __eq__ and __len__: any, all, min, max, sum and sorted take a list.
        for path, node in nodes(ast.Call):
            if isinstance(node.func, ast.Name) and node.func.id in ("any", "all", "min", "max", "sum", "sorted"):
                kinds = [part for part in node.args if isinstance(part, ast.GeneratorExp)]
                self.assertEqual(kinds, [], (path, node.lineno))

    def test_decorators(self):
        for path, node in nodes((ast.FunctionDef, ast.ClassDef)):
            for decorator in node.decorator_list:
                told = ast.unparse(decorator)
                self.assertTrue(told in ("property", "staticmethod", "classmethod") or told.endswith(".setter"), path)

    def test_no_method_adds_in_place(self):
        # Table has __iadd__: what an operator or a property runs has no += at all.
        for path, node in nodes(ast.ClassDef):
            found = [part.lineno for part in ast.walk(node) if isinstance(part, ast.AugAssign)]
            self.assertEqual(found, [], path)

    def test_no_method_and_no_attribute_has_the_name_of_a_property(self):
        methods = [part for _, node in nodes(ast.ClassDef) for part in node.body if isinstance(part, ast.FunctionDef)]
        properties = {
            part.name for part in methods if [ast.unparse(told) for told in part.decorator_list] == ["property"]
        }
        self.assertIn("rows", properties)
        for part in methods:
            if not part.decorator_list:
                self.assertNotIn(part.name, properties)
        for path, node in nodes(ast.Attribute):
            if isinstance(node.ctx, ast.Store):
                self.assertNotIn(node.attr, properties, (path, node.lineno))

    def test_remainders_are_taken_of_what_is_plainly_a_number(self):
        # The package makes bytes and has operators.
        for path, node in nodes(ast.BinOp):
            if isinstance(node.op, ast.Mod):
                self.assertRegex(ast.unparse(node.left), r"^(len|int)\(|^\d+$", path)
            if isinstance(node.op, ast.Pow):
                self.assertIsInstance(node.right, ast.Constant, path)

    def test_no_attribute_is_called_keys(self):
        # Table has __getitem__.
        for path, node in nodes(ast.Attribute):
            self.assertNotEqual(node.attr, "keys", (path, node.lineno))

    def test_nothing_but_the_names_of_the_library_is_imported_where_objects_are_iterated_over(self):
        # Table and Outcome have __iter__ and __len__: no product, combinations or permutations.
        for path, node in nodes(ast.ImportFrom):
            self.assertNotEqual(node.module, "itertools", path)

    def test_objects_are_called_by_a_name(self):
        for path, node in nodes(ast.Call):
            self.assertNotIsInstance(node.func, ast.Call, (path, node.lineno))

    def test_no_import_leads_back(self):
        imported = {}
        for path, node in nodes(ast.ImportFrom):
            if node.module not in LIBRARY:
                imported.setdefault(path.stem, set()).add(node.module.rpartition(".")[2])
        for start in imported:
            reached, todo = set(), list(imported[start])
            while todo:
                file = todo.pop()
                if file not in reached:
                    reached.add(file)
                    todo.extend(imported.get(file, ()))
            self.assertNotIn(start, reached)


if __name__ == "__main__":
    unittest.main()
