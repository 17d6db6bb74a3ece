"""The rules of LANGUAGE.md that a small script can see, over all files of the package."""

import ast
import builtins
import pathlib
import re
import unittest

ROOT = pathlib.Path(__file__).resolve().parent.parent
PACKAGE = ROOT / "surelet"
FILES = sorted(path for path in PACKAGE.rglob("*") if path.is_file() and "__pycache__" not in path.parts)
LIBRARY = {
    "heapq": {"heappush", "heappop", "heapify", "heapreplace", "heappushpop"},
    "math": {"gcd", "lcm", "isqrt", "comb", "perm", "factorial"},
    "itertools": {
        "product", "combinations", "permutations", "chain", "accumulate", "pairwise", "islice", "zip_longest",
    },
    "collections": {"defaultdict"},
}
BUILTINS = set(
    """len range enumerate zip min max sum abs sorted reversed int str bool bytes list tuple dict set isinstance ord
    repr any all divmod pow getattr hasattr setattr iter next map super property staticmethod classmethod Exception
    ValueError TypeError KeyError IndexError LookupError ZeroDivisionError ArithmeticError OverflowError RuntimeError
    NotImplementedError AttributeError StopIteration NotImplemented""".split()
)
SPECIAL = set(
    """__init__ __eq__ __repr__ __str__ __len__ __enter__ __exit__ __call__ __iter__ __lt__ __le__ __gt__ __ge__ __ne__
    __contains__ __getitem__ __setitem__ __bool__""".split()
)
BARRED = set(
    """type typing typing_extensions enum Enum IntEnum StrEnum Flag IntFlag Generic Protocol ABC ABCMeta namedtuple
    NamedTuple TypedDict TYPE_CHECKING abstractmethod register mro elements open input law version_info eval exec
    globals locals vars dir id help compile""".split()
)
DECORATORS = {"property", "staticmethod", "classmethod"}
METHODS = set(
    """append clear copy count endswith extend find get index insert isalnum isalpha isdigit islower isspace isupper
    items join keys ljust lower lstrip partition pop remove replace reverse rfind rjust rpartition rsplit rstrip
    setdefault split splitlines startswith strip update upper values zfill bit_length""".split()
)
CHANGING = {"append", "clear", "extend", "insert", "pop", "remove", "reverse", "setdefault", "update"}
KEYWORDS = {"sorted": {"key", "reverse"}, "min": {"key", "default"}, "max": {"key", "default"}, "sum": {"start"},
            "enumerate": {"start"}, "zip": {"strict"}}
FUNCTIONS = (ast.FunctionDef, ast.Lambda)


def source_of(path):
    return path.read_text(encoding="utf-8")


def trees():
    return [(path.name, ast.parse(source_of(path))) for path in FILES]


def every_node():
    return [(name, node) for name, tree in trees() for node in ast.walk(tree)]


def nodes_of(*kinds):
    return [(name, node) for name, node in every_node() if isinstance(node, kinds)]


def docstrings(tree):
    """The nodes that are docstrings."""
    found = []
    for node in ast.walk(tree):
        body = getattr(node, "body", None)
        if isinstance(body, list) and body and isinstance(body[0], ast.Expr):
            found.append(body[0].value)
    return found


def bound_names(tree):
    """The names that a module binds at its level, once for each time."""
    names = []
    for node in tree.body:
        if isinstance(node, (ast.FunctionDef, ast.ClassDef)):
            names.append(node.name)
        elif isinstance(node, ast.ImportFrom):
            names += [alias.asname or alias.name for alias in node.names]
        elif isinstance(node, ast.Assign):
            names += [target.id for target in node.targets]
    return names


class Files(unittest.TestCase):
    def test_the_folder_has_plain_files_alone(self):
        self.assertIn("__init__.py", [path.name for path in FILES])
        self.assertLessEqual(len(FILES), 100)
        for path in FILES:
            self.assertRegex(path.name, r"^(__init__|__main__|[a-z][a-z0-9_]*)\.py$")

    def test_lines_and_characters(self):
        for path in FILES:
            self.assertRegex(source_of(path), r"^[ -~\n]*$", path.name)
            lines = source_of(path).split("\n")
            self.assertLessEqual(len(source_of(path).splitlines()), 399, path.name)
            for at, line in enumerate(lines):
                self.assertLessEqual(len(line), 120, (path.name, at + 1))

    def test_functions_have_at_most_forty_lines(self):
        for name, node in nodes_of(*FUNCTIONS):
            first = min([node.lineno] + [mark.lineno for mark in getattr(node, "decorator_list", [])])
            self.assertLessEqual(node.end_lineno - first + 1, 40, (name, node.lineno))


class Names(unittest.TestCase):
    def test_imports(self):
        bound = {name[:-3]: bound_names(tree) for name, tree in trees()}
        for name, node in nodes_of(ast.Import, ast.ImportFrom):
            where = (name, node.lineno)
            self.assertIsInstance(node, ast.ImportFrom, where)
            self.assertEqual(node.level, 0, where)
            parts = node.module.split(".")
            for alias in node.names:
                self.assertIsNone(alias.asname, where)
                if parts[0] == "surelet":
                    self.assertEqual(len(parts), 2, where)
                    defined = [one.name for one in ast.parse(source_of(PACKAGE / (parts[1] + ".py"))).body
                               if isinstance(one, (ast.FunctionDef, ast.ClassDef))]
                    constants = [word for word in bound[parts[1]] if word.isupper()]
                    self.assertIn(alias.name, defined + constants, where)
                else:
                    self.assertIn(alias.name, LIBRARY[node.module], where)

    def test_names_are_bound_once(self):
        for name, tree in trees():
            names = bound_names(tree)
            self.assertEqual(len(names), len(set(names)), name)
            for node in ast.walk(tree):
                local = []
                if isinstance(node, ast.arg):
                    local = [node.arg]
                elif isinstance(node, ast.Name) and isinstance(node.ctx, ast.Store) and node.id not in names:
                    local = [node.id]
                # These parameters of the interface have the name of a function beside them.
                forced = {"witnesses.py": ["witness"], "timetables.py": ["clash"]}.get(name, [])
                outer = [one for one in names if not one.isupper() and one not in forced]
                for word in local:
                    self.assertNotIn(word, outer, (name, node.lineno))
                    self.assertFalse(hasattr(builtins, word), (name, node.lineno, word))

    def test_barred_names_and_words(self):
        for name, tree in trees():
            told = docstrings(tree)
            for node in ast.walk(tree):
                words = []
                if isinstance(node, (ast.Name, ast.Attribute, ast.arg, ast.FunctionDef, ast.ClassDef)):
                    words = [getattr(node, key) for key in ("id", "attr", "arg", "name") if hasattr(node, key)]
                elif isinstance(node, ast.Constant) and isinstance(node.value, str) and node not in told:
                    words = re.findall(r"\w+", node.value)
                self.assertFalse(BARRED & set(words), (name, words))

    def test_builtins(self):
        for name, node in nodes_of(ast.Name):
            if hasattr(builtins, node.id):
                self.assertIn(node.id, BUILTINS, (name, node.lineno))

    def test_methods_and_attributes(self):
        for name, node in nodes_of(ast.FunctionDef):
            if node.name.startswith("__"):
                self.assertIn(node.name, SPECIAL, (name, node.lineno))
            for mark in node.decorator_list:
                word = mark.id if isinstance(mark, ast.Name) else mark.attr
                self.assertIn(word, DECORATORS | {"setter"}, (name, node.lineno))
        for name, node in nodes_of(ast.ClassDef):
            self.assertEqual(node.decorator_list, [], (name, node.lineno))
            methods = [one.name for one in node.body if isinstance(one, ast.FunctionDef)]
            attributes = {one.attr for one in ast.walk(node)
                          if isinstance(one, ast.Attribute) and isinstance(one.ctx, ast.Store)}
            self.assertFalse(attributes & set(methods), (name, node.name))

    def test_no_name_is_a_method_and_an_attribute(self):
        methods, properties, attributes = set(), set(), set()
        for _, node in nodes_of(ast.ClassDef):
            for one in node.body:
                if isinstance(one, ast.FunctionDef):
                    marks = [mark.id for mark in one.decorator_list if isinstance(mark, ast.Name)]
                    (properties if "property" in marks else methods).add(one.name)
            attributes |= {one.attr for one in ast.walk(node)
                           if isinstance(one, ast.Attribute) and isinstance(one.ctx, ast.Store)}
        self.assertEqual([methods & attributes, properties & attributes, properties & methods], [set()] * 3)
        own = set(dir(str) + dir(int) + dir(list) + dir(dict) + dir(set) + dir(bytes))
        self.assertEqual({name for name in methods & own if not name.startswith("__")}, {"copy", "join"})
        self.assertEqual(attributes & own - {"count", "index"}, set())
        self.assertEqual(properties & own, set())

    def test_only_listed_methods_are_called(self):
        own = {node.name for _, node in nodes_of(ast.FunctionDef)} | {"first", "second"}
        for name, node in nodes_of(ast.Call):
            if isinstance(node.func, ast.Attribute):
                self.assertIn(node.func.attr, METHODS | own, (name, node.lineno))
                if node.func.attr in METHODS:
                    self.assertEqual(node.keywords, [], (name, node.lineno))
            elif isinstance(node.func, ast.Name) and hasattr(builtins, node.func.id):
                words = {keyword.arg for keyword in node.keywords}
                self.assertLessEqual(words, KEYWORDS.get(node.func.id, set()), (name, node.lineno))

    def test_attributes_are_assigned_through_names(self):
        for name, node in nodes_of(ast.Attribute):
            if isinstance(node.ctx, ast.Store):
                self.assertIsInstance(node.value, ast.Name, (name, node.lineno))

    def test_a_name_of_a_generator_is_its_own(self):
        rows = nodes_of(ast.FunctionDef)
        names = [node.name for _, node in rows]
        for name, node in rows:
            if any(isinstance(one, (ast.Yield, ast.YieldFrom)) for one in ast.walk(node)):
                self.assertEqual(names.count(node.name), 1, (name, node.name))


class Steps(unittest.TestCase):
    def test_no_statement_from_outside_the_subset(self):
        barred = (ast.Global, ast.AsyncFunctionDef, ast.Await, ast.GeneratorExp, ast.Div)
        self.assertEqual([(name, ast.dump(node)) for name, node in nodes_of(*barred)], [])

    def test_constants(self):
        for name, node in nodes_of(ast.Constant):
            self.assertNotIsInstance(node.value, (float, complex), (name, node.lineno))
            if isinstance(node.value, str):
                self.assertNotIn("%", node.value, (name, node.lineno))

    def test_a_handler_names_its_errors(self):
        for name, node in nodes_of(ast.ExceptHandler):
            self.assertIsNotNone(node.type, (name, node.lineno))
            for word in node.type.elts if isinstance(node.type, ast.Tuple) else [node.type]:
                self.assertNotIn(word.id, ("Exception", "BaseException", "TypeError"), (name, node.lineno))

    def test_what_is_compared_by_is(self):
        for name, node in nodes_of(ast.Compare):
            for operator, right in zip(node.ops, node.comparators):
                if isinstance(operator, (ast.Is, ast.IsNot)):
                    self.assertIn(getattr(right, "value", 0), (None, True, False), (name, node.lineno))
                    self.assertIsInstance(right, ast.Constant, (name, node.lineno))

    def test_tables_of_modules_are_only_read(self):
        for name, tree in trees():
            tables = [node.targets[0].id for node in tree.body
                      if isinstance(node, ast.Assign) and isinstance(node.value, (ast.Dict, ast.List))]
            parents = {child: node for node in ast.walk(tree) for child in ast.iter_child_nodes(node)}
            for node in ast.walk(tree):
                if isinstance(node, ast.Name) and node.id in tables and isinstance(node.ctx, ast.Load):
                    parent = parents[node]
                    self.assertIsInstance(parent, (ast.Attribute, ast.Subscript, ast.Compare), (name, node.lineno))
                    self.assertNotIn(getattr(parent, "attr", ""), CHANGING, (name, node.lineno))

    def test_loops_do_not_change_what_they_iterate_over(self):
        for name, node in nodes_of(ast.For):
            over = node.iter
            while isinstance(over, ast.Call) and isinstance(over.func, ast.Attribute):
                over = over.func.value
            told = ast.dump(over).replace("Store()", "Load()")
            for one in [one for row in node.body for one in ast.walk(row)]:
                where = (name, node.lineno)
                if isinstance(one, ast.Call) and isinstance(one.func, ast.Attribute) and one.func.attr in CHANGING:
                    self.assertNotEqual(ast.dump(one.func.value), told, where)
                if isinstance(one, ast.Subscript) and not isinstance(one.ctx, ast.Load):
                    self.assertNotEqual(ast.dump(one.value), told, where)

    def test_sets_are_made_where_they_are_used(self):
        for name, tree in trees():
            parents = {child: node for node in ast.walk(tree) for child in ast.iter_child_nodes(node)}
            for node in ast.walk(tree):
                made = isinstance(node, ast.Call) and isinstance(node.func, ast.Name) and node.func.id == "set"
                if made or isinstance(node, (ast.Set, ast.SetComp)):
                    parent = parents[node]
                    fine = isinstance(parent, ast.Compare) or parent.func.id in ("sorted", "len")
                    self.assertTrue(fine, (name, node.lineno))

    def test_lengths_are_lengths(self):
        for name, node in nodes_of(ast.FunctionDef):
            if node.name == "__len__":
                for one in ast.walk(node):
                    if isinstance(one, ast.Return):
                        self.assertEqual(one.value.func.id, "len", (name, node.lineno))

    def test_modules_execute_nothing(self):
        kinds = (ast.FunctionDef, ast.ClassDef, ast.ImportFrom, ast.Assign, ast.Expr)
        for name, tree in trees():
            for at, node in enumerate(tree.body):
                self.assertIsInstance(node, kinds, (name, node.lineno))
                if isinstance(node, ast.Expr):
                    self.assertEqual((at, isinstance(node.value, ast.Constant)), (0, True), (name, node.lineno))
                if isinstance(node, ast.Assign):
                    calls = [one for one in ast.walk(node) if isinstance(one, (ast.Call, ast.Lambda))]
                    self.assertEqual(calls, [], (name, node.lineno))


if __name__ == "__main__":
    unittest.main()
