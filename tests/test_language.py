"""The subset of the language in which the package is written, as far as it can be seen from outside."""

import ast
import builtins
import pathlib
import re
import unittest
import warnings

PACKAGE = pathlib.Path(__file__).resolve().parent.parent / "roundorlist"
FILES = sorted(path for path in PACKAGE.rglob("*") if path.is_file() and path.suffix != ".pyc")
SOURCES = {path: path.read_text(encoding="utf-8") for path in FILES}
TREES = {path: ast.parse(source) for path, source in SOURCES.items()}

BUILTINS = set((
    "len range enumerate zip min max sum abs sorted reversed int str bool bytes list tuple dict set frozenset "
    "isinstance ord repr any all divmod pow getattr hasattr setattr Exception ValueError TypeError KeyError "
    "IndexError LookupError ZeroDivisionError ArithmeticError OverflowError RuntimeError NotImplementedError "
    "AttributeError StopIteration NotImplemented iter next map type"
).split())
METHODS = set((
    "append clear copy count endswith extend find get index insert isalnum isalpha isdigit islower isspace isupper "
    "items join keys ljust lower lstrip partition pop remove replace reverse rfind rjust rpartition rsplit rstrip "
    "setdefault split splitlines startswith strip update upper values zfill bit_length add discard sort"
).split())
LIBRARY = {
    "heapq": set("heappush heappop heapify heapreplace heappushpop".split()),
    "math": set("gcd lcm isqrt comb perm factorial".split()),
    "itertools": set("product combinations permutations chain accumulate pairwise islice zip_longest".split()),
    "collections": {"defaultdict", "deque"},
}
BARRED = (ast.AsyncFunctionDef, ast.AsyncFor, ast.AsyncWith, ast.Await, ast.Global, ast.Div, ast.Import)
ALLOWED_AT_TOP = (ast.FunctionDef, ast.ClassDef, ast.ImportFrom, ast.Assign, ast.Expr)

# Words that stand nowhere in a file but in comments and docstrings, and names that nothing has.
BARRED_WORDS = set((
    "type typing typing_extensions enum Enum IntEnum StrEnum Flag IntFlag Generic Protocol ABC ABCMeta namedtuple "
    "NamedTuple TypedDict TYPE_CHECKING abstractmethod dataclass overload contextmanager"
).split())
BARRED_NAMES = set((
    "mro elements open input law version_info with_traceback add_note register attrgetter breakpoint builtins compile "
    "copyright credits delattr dir eval exec exit gc getattr globals hasattr help id importlib license locals "
    "methodcaller os quit setattr super type vars sys"
).split())


def functions_of(tree):
    return [node for node in ast.walk(tree) if isinstance(node, ast.FunctionDef)]


def names_bound(tree):
    """All names that a file gives to something."""
    found = set()
    for node in ast.walk(tree):
        if isinstance(node, (ast.FunctionDef, ast.ClassDef)):
            found.add(node.name)
        elif isinstance(node, ast.arg):
            found.add(node.arg)
        elif isinstance(node, ast.Name) and not isinstance(node.ctx, ast.Load):
            found.add(node.id)
        elif isinstance(node, ast.ExceptHandler) and node.name:
            found.add(node.name)
        elif isinstance(node, ast.ImportFrom):
            found.update(alias.asname or alias.name for alias in node.names)
    return found


class Language(unittest.TestCase):

    def test_the_folder_has_only_plain_files(self):
        self.assertIn(PACKAGE / "__init__.py", FILES)
        for path in FILES:
            self.assertRegex(path.name, r"^[a-z_][a-z0-9_]*\.py$")
            self.assertEqual(path.parent, PACKAGE)

    def test_sizes_and_characters(self):
        for path, source in SOURCES.items():
            self.assertRegex(source, re.compile(r"\A[ -~\n]*\Z"), path.name)
            lines = source.splitlines()
            self.assertLessEqual(len(lines), 399, path.name)
            self.assertLessEqual(max(map(len, lines)), 120, path.name)
            for function in functions_of(TREES[path]):
                self.assertLessEqual(function.end_lineno - function.lineno + 1, 40, function.name)

    def test_no_warnings(self):
        with warnings.catch_warnings():
            warnings.simplefilter("error")
            for path, source in SOURCES.items():
                compile(source, str(path), "exec")

    def test_module_level(self):
        for path, tree in TREES.items():
            for node in tree.body:
                self.assertIsInstance(node, ALLOWED_AT_TOP, path.name)
                if isinstance(node, ast.Assign):
                    ast.literal_eval(node.value)
                if isinstance(node, ast.Expr):
                    self.assertIs(node, tree.body[0], path.name)

    def test_statements(self):
        for path, tree in TREES.items():
            for node in ast.walk(tree):
                self.assertNotIsInstance(node, BARRED, path.name)
                self.assertFalse(getattr(node, "decorator_list", []), path.name)
                if isinstance(node, ast.Constant):
                    self.assertNotIsInstance(node.value, (float, complex), path.name)

    def test_imports_name_the_file_that_defines(self):
        for path, tree in TREES.items():
            for node in ast.walk(tree):
                if isinstance(node, ast.ImportFrom):
                    self.assertIn(node, tree.body, path.name)
                    self.assertEqual(node.level, 0, path.name)
                    self.check_import(path, node)

    def check_import(self, path, node):
        for alias in node.names:
            if node.module in LIBRARY:
                self.assertIn(alias.name, LIBRARY[node.module], path.name)
                continue
            self.assertRegex(node.module, r"^roundorlist\.[a-z_]+$", path.name)
            other = TREES[PACKAGE / (node.module.split(".")[1] + ".py")]
            defined = [part.name for part in other.body if isinstance(part, (ast.FunctionDef, ast.ClassDef))]
            for part in other.body:
                if isinstance(part, ast.Assign):
                    defined.append(part.targets[0].id)
            self.assertIn(alias.name, defined, path.name)

    def test_imports_are_used_and_never_go_round(self):
        ahead = {}
        for path, tree in TREES.items():
            read = {node.id for node in ast.walk(tree) if isinstance(node, ast.Name)}
            ahead[path.stem] = set()
            for node in tree.body:
                if isinstance(node, ast.ImportFrom):
                    self.assertLessEqual({alias.asname or alias.name for alias in node.names}, read, path.name)
                    if node.module.startswith("roundorlist."):
                        ahead[path.stem].add(node.module.split(".")[1])
        while ahead:
            free = [name for name, others in ahead.items() if not others]
            self.assertTrue(free, ahead)
            ahead = {name: others - set(free) for name, others in ahead.items() if others}

    def test_no_other_builtin_is_used_and_none_gets_another_meaning(self):
        for path, tree in TREES.items():
            bound = names_bound(tree)
            self.assertEqual(sorted(bound & set(dir(builtins))), [], path.name)
            for node in ast.walk(tree):
                if isinstance(node, ast.Name) and node.id not in bound:
                    self.assertIn(node.id, BUILTINS, path.name)

    def test_only_known_methods_are_called(self):
        own = {node.name for tree in TREES.values() for part in tree.body if isinstance(part, ast.ClassDef)
               for node in part.body if isinstance(node, ast.FunctionDef)}
        for path, tree in TREES.items():
            for node in ast.walk(tree):
                if isinstance(node, ast.Call) and isinstance(node.func, ast.Attribute):
                    self.assertIn(node.func.attr, METHODS | own, path.name)

    def test_classes_have_only_plain_methods(self):
        for path, tree in TREES.items():
            for part in ast.walk(tree):
                if isinstance(part, ast.ClassDef):
                    self.assertIn(part, tree.body, path.name)
                    self.check_class(part)

    def check_class(self, part):
        methods = [node.name for node in part.body if isinstance(node, ast.FunctionDef)]
        attributes = {node.attr for node in ast.walk(part) if isinstance(node, ast.Attribute)
                      and isinstance(node.ctx, ast.Store)}
        self.assertEqual(len(set(methods)), len(methods), part.name)
        self.assertEqual(sorted(attributes & set(methods)), [], part.name)
        for name in methods + sorted(attributes):
            self.assertTrue(name == "__init__" or not name.startswith("__"), part.name)
        for node in part.body:
            if not isinstance(node, ast.FunctionDef):
                self.assertIsInstance(node, ast.Expr, part.name)

    def test_lists_and_dicts_of_a_module_are_only_read_where_they_stand(self):
        for path, tree in TREES.items():
            plain = {node.targets[0].id for node in tree.body if isinstance(node, ast.Assign)
                     and isinstance(node.value, (ast.Dict, ast.List))}
            for node in ast.walk(tree):
                if isinstance(node, ast.ImportFrom) and node.module.startswith("roundorlist."):
                    other = TREES[PACKAGE / (node.module.split(".")[1] + ".py")]
                    taken = {alias.name for alias in node.names}
                    plain |= {part.targets[0].id for part in other.body if isinstance(part, ast.Assign)
                              and isinstance(part.value, (ast.Dict, ast.List)) and part.targets[0].id in taken}
            read = set()
            for node in ast.walk(tree):
                if isinstance(node, ast.Subscript) and isinstance(node.ctx, ast.Load):
                    read.add(node.value)
                elif isinstance(node, (ast.For, ast.comprehension)):
                    read.add(node.iter)
                elif isinstance(node, ast.Compare):
                    read.update(node.comparators)
            for node in ast.walk(tree):
                if isinstance(node, ast.Name) and node.id in plain and isinstance(node.ctx, ast.Load):
                    self.assertIn(node, read, path.name)

    def test_sets_are_only_asked(self):
        for path, tree in TREES.items():
            for function in functions_of(tree):
                stored = {node.targets[0].id for node in ast.walk(function) if isinstance(node, ast.Assign)
                          and isinstance(node.value, ast.Call) and getattr(node.value.func, "id", "") == "set"}
                asked = {part for node in ast.walk(function) if isinstance(node, ast.Compare)
                         and isinstance(node.ops[0], (ast.In, ast.NotIn)) for part in node.comparators}
                for node in ast.walk(function):
                    if isinstance(node, ast.Name) and node.id in stored and isinstance(node.ctx, ast.Load):
                        self.assertIn(node, asked, function.name)

    def test_no_local_name_is_that_of_an_import(self):
        for path, tree in TREES.items():
            brought = set()
            for node in tree.body:
                if isinstance(node, ast.ImportFrom):
                    brought.update(alias.name for alias in node.names)
            for function in functions_of(tree):
                self.assertEqual(sorted(names_bound(function) & brought), [], function.name)

    def test_strings_have_nothing_that_is_barred(self):
        for path, tree in TREES.items():
            docs = [node.body[0].value for node in ast.walk(tree)
                    if isinstance(node, (ast.Module, ast.FunctionDef, ast.ClassDef)) and ast.get_docstring(node)]
            for node in ast.walk(tree):
                if isinstance(node, ast.Constant) and isinstance(node.value, str) and node not in docs:
                    self.assertNotIn("%", node.value, path.name)
                    self.assertNotIn("__", node.value, path.name)
                    self.assertEqual(set(re.findall(r"\w+", node.value)) & BARRED_WORDS, set(), path.name)

    def test_no_name_is_barred(self):
        for path, tree in TREES.items():
            names = names_bound(tree) | {node.attr for node in ast.walk(tree) if isinstance(node, ast.Attribute)}
            names |= {node.arg for node in ast.walk(tree) if isinstance(node, ast.keyword)}
            self.assertEqual(names & (BARRED_NAMES | BARRED_WORDS), set(), path.name)
            for name in names - {"__init__", "__class__", "__name__"}:
                self.assertRegex(name, r"^(_|_?[A-Za-z][A-Za-z0-9_]*)$", path.name)
                self.assertFalse(name.startswith(("_wall", "_pe_", "_dcw_", "_enum_", "_cm_", "_law_")), name)

    def test_is_stands_beside_none_true_and_false_alone(self):
        for path, tree in TREES.items():
            for node in ast.walk(tree):
                if isinstance(node, ast.Compare) and isinstance(node.ops[0], (ast.Is, ast.IsNot)):
                    beside = [node.left] + node.comparators
                    self.assertTrue(any(isinstance(part, ast.Constant) and part.value in (None, True, False)
                                        for part in beside), path.name)

    def test_attributes_are_assigned_through_names(self):
        for path, tree in TREES.items():
            classes = {node.name for node in ast.walk(tree) if isinstance(node, ast.ClassDef)}
            for node in ast.walk(tree):
                if isinstance(node, ast.Attribute) and isinstance(node.ctx, ast.Store):
                    self.assertIsInstance(node.value, ast.Name, path.name)
                    self.assertNotIn(node.value.id, classes, path.name)
                if isinstance(node, ast.Attribute) and node.attr == "__class__":
                    self.assertIsInstance(node.value, ast.Name, path.name)

    def test_errors_are_made_where_they_are_raised(self):
        errors = {node.name for node in TREES[PACKAGE / "errors.py"].body if isinstance(node, ast.ClassDef)}
        for path, tree in TREES.items():
            for node in ast.walk(tree):
                if isinstance(node, ast.Raise):
                    self.assertIsInstance(node.exc, ast.Call, path.name)
                    self.assertIn(node.exc.func.id, errors, path.name)
                    self.assertEqual((len(node.exc.args), node.exc.keywords), (1, []), path.name)
                if isinstance(node, ast.ExceptHandler):
                    self.assertIn(node.type.id, errors, path.name)


if __name__ == "__main__":
    unittest.main()
