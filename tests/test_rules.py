"""The rules of the language that can be seen in a file, for each file of the package."""

import ast
import pathlib
import re
import unittest

PACKAGE = pathlib.Path(__file__).resolve().parent.parent / "surecounts"
FILES = sorted(path for path in PACKAGE.rglob("*") if path.is_file() and "__pycache__" not in path.parts)
TREES = {path.name: ast.parse(path.read_text(encoding="ascii")) for path in FILES}
BUILTINS = """len range enumerate zip min max sum abs sorted reversed int str bool bytes list tuple dict set frozenset
    isinstance ord repr any all divmod iter next Exception ValueError TypeError KeyError IndexError LookupError
    ZeroDivisionError ArithmeticError OverflowError RuntimeError NotImplementedError NotImplemented""".split()
SPECIAL = """__init__ __eq__ __repr__ __str__ __len__ __enter__ __exit__ __call__ __iter__ __lt__ __le__ __gt__ __ge__
    __ne__ __add__ __sub__ __mul__ __floordiv__ __mod__ __pow__ __and__ __or__ __xor__ __lshift__ __rshift__ __neg__
    __pos__ __invert__ __abs__ __bool__ __contains__ __getitem__ __setitem__""".split()
LIBRARY = {"heapq": ["heappush", "heappop", "heapify", "heapreplace", "heappushpop"],
           "math": ["gcd", "lcm", "isqrt", "comb", "perm", "factorial"],
           "itertools": ["product", "combinations", "permutations"]}
NOWHERE = "register mro elements open input law version_info with_traceback add_note format format_map".split()
BARRED = """type typing enum Enum Generic Protocol ABC namedtuple NamedTuple TypedDict abstractmethod getattr setattr
    delattr hasattr vars dir eval exec compile globals locals id help super os sys gc exit quit print chr map filter
    float complex object hash callable slice round pow hex oct bin memoryview bytearray TimeoutError""".split() + NOWHERE
METHODS = """append clear copy count endswith extend find get index insert isalnum isalpha isdigit islower isspace
    isupper items join keys ljust lower lstrip partition pop remove replace reverse rfind rjust rpartition rsplit
    rstrip setdefault split splitlines startswith strip update upper values zfill bit_length title capitalize swapcase
    casefold center expandtabs removeprefix removesuffix rindex isascii isdecimal isnumeric istitle isidentifier
    isprintable encode decode hex translate maketrans add discard""".split()
NO_SYNTAX = (ast.Global, ast.AsyncFunctionDef, ast.AsyncFor, ast.AsyncWith, ast.Await, ast.Div)


def nodes(kind):
    return [(name, node) for name, tree in TREES.items() for node in ast.walk(tree) if isinstance(node, kind)]


def bound_names():
    """All names that the package gives to things, with the place."""
    for name, node in nodes((ast.FunctionDef, ast.ClassDef)):
        yield (name, node.lineno, node.name)
    for name, node in nodes(ast.arg):
        yield (name, node.lineno, node.arg)
    for name, node in nodes(ast.Name):
        if isinstance(node.ctx, ast.Store):
            yield (name, node.lineno, node.id)


class Rules(unittest.TestCase):

    def test_files(self):
        for path in FILES:
            self.assertRegex(path.name, r"\A[a-z_]+\.py\Z")
            text = path.read_bytes()
            self.assertTrue(all(byte == 10 or 32 <= byte <= 126 for byte in text), path)
            rows = text.decode().split("\n")
            self.assertLessEqual(len(rows), 400, path)
            self.assertLessEqual(max(map(len, rows)), 120, path)
        self.assertLessEqual(len(FILES), 100)

    def test_functions_are_small(self):
        for name, node in nodes(ast.FunctionDef):
            self.assertLessEqual(node.end_lineno - node.lineno + 1, 40, (name, node.name))

    def test_imports(self):
        self.assertEqual(nodes(ast.Import), [])
        for name, node in nodes(ast.ImportFrom):
            self.assertEqual(node.level, 0, name)
            for alias in node.names:
                self.assertIsNone(alias.asname, name)
                if node.module in LIBRARY:
                    self.assertIn(alias.name, LIBRARY[node.module], name)
                    continue
                package, _, module = node.module.partition(".")
                self.assertEqual(package, "surecounts", name)
                defined = [getattr(row, "name", None) or row.targets[0].id for row in TREES[module + ".py"].body
                           if isinstance(row, (ast.FunctionDef, ast.ClassDef, ast.Assign))]
                self.assertIn(alias.name, defined, name)

    def test_imports_are_used(self):
        for name, tree in TREES.items():
            read = [node.id for node in ast.walk(tree) if isinstance(node, ast.Name)]
            for row in tree.body:
                if isinstance(row, ast.ImportFrom):
                    for alias in row.names:
                        self.assertIn(alias.name, read, name)

    def test_generators_have_names_of_their_own(self):
        functions = [node for _, node in nodes(ast.FunctionDef)]
        yielding = [node.name for node in functions if any(isinstance(row, (ast.Yield, ast.YieldFrom))
                                                           for row in ast.walk(node))]
        names = [place[2] for place in bound_names()]
        self.assertEqual([(name, names.count(name)) for name in yielding], [(name, 1) for name in yielding])

    def test_no_circle_of_imports(self):
        needs = {name: {node.module.split(".")[1] + ".py" for node in tree.body if isinstance(node, ast.ImportFrom)
                        and node.module not in LIBRARY} for name, tree in TREES.items()}
        while needs:
            free = [name for name in needs if not needs[name] & set(needs)]
            self.assertTrue(free, needs)
            needs = {name: needs[name] for name in needs if name not in free}

    def test_module_level(self):
        for name, tree in TREES.items():
            for at, row in enumerate(tree.body):
                allowed = (ast.ImportFrom, ast.FunctionDef, ast.ClassDef, ast.Assign)
                words = at == 0 and isinstance(row, ast.Expr) and isinstance(row.value, ast.Constant)
                self.assertTrue(words or isinstance(row, allowed), (name, row.lineno))

    def test_names(self):
        builtin = set(BUILTINS) | set(BARRED)
        for place in bound_names():
            self.assertTrue(place[2] in SPECIAL or re.fullmatch(r"_?[A-Za-z][A-Za-z0-9_]*|_", place[2]), place)
            self.assertNotIn(place[2], builtin, place)

    def test_no_local_name_is_that_of_an_import_or_a_class(self):
        for name, tree in TREES.items():
            fixed = [alias.name for row in tree.body if isinstance(row, ast.ImportFrom) for alias in row.names]
            fixed.extend(row.name for row in tree.body if isinstance(row, ast.ClassDef))
            self.assertEqual(len(fixed), len(set(fixed)), name)
            for place in bound_names():
                if place[0] == name and place[2] in fixed:
                    self.assertIn(place[2], [row.name for row in tree.body if isinstance(row, ast.ClassDef)], place)

    def test_names_that_are_read(self):
        for name, node in nodes(ast.Name):
            self.assertNotIn(node.id, BARRED, (name, node.lineno))
            self.assertFalse(node.id == "_" and isinstance(node.ctx, ast.Load), (name, node.lineno))
        for name, node in nodes(ast.Attribute):
            self.assertNotIn(node.attr, NOWHERE, (name, node.lineno))
            self.assertFalse(node.attr.startswith("__"), (name, node.lineno))

    def test_statements_and_expressions(self):
        for name, node in nodes(NO_SYNTAX):
            self.fail((name, node))
        for name, node in nodes(ast.Compare):
            for sign, other in zip(node.ops, node.comparators):
                if isinstance(sign, (ast.Is, ast.IsNot)):
                    sides = [getattr(side, "value", getattr(side, "id", 0)) for side in (node.left, other)]
                    self.assertTrue({None, True, False, "self"} & set(sides), (name, node.lineno))
        for name, node in nodes(ast.Constant):
            self.assertNotIsInstance(node.value, (float, complex), (name, node.lineno))
            if isinstance(node.value, str):
                self.assertNotIn("%", node.value, (name, node.lineno))

    def test_errors_are_created_where_they_are_raised(self):
        for name, node in nodes(ast.Raise):
            if node.exc is not None:
                self.assertIsInstance(node.exc, ast.Call, (name, node.lineno))
                self.assertIsInstance(node.exc.func, ast.Name, (name, node.lineno))

    def test_generator_expressions_stand_in_list_tuple_or_dict(self):
        # The classes have __eq__, so that any, all, min, max, sum and sorted take lists.
        allowed = [id(node.args[0]) for _, node in nodes(ast.Call) if node.args
                   and isinstance(node.func, ast.Name) and node.func.id in ("list", "tuple", "dict")]
        for name, node in nodes(ast.GeneratorExp):
            self.assertIn(id(node), allowed, (name, node.lineno))

    def test_no_list_is_sorted_in_its_place(self):
        for name, node in nodes(ast.Attribute):
            self.assertNotEqual(node.attr, "sort", (name, node.lineno))

    def test_decorators_and_methods(self):
        for name, node in nodes(ast.FunctionDef):
            self.assertLessEqual(len(node.decorator_list), 1)
            for mark in node.decorator_list:
                self.assertRegex(ast.unparse(mark), r"\A(property|classmethod|staticmethod|[a-z]+[.]setter)\Z")
            if node.name.startswith("__"):
                self.assertIn(node.name, SPECIAL, (name, node.lineno))
        own = [node.name for _, node in nodes(ast.FunctionDef)]
        for name, node in nodes(ast.Call):
            if isinstance(node.func, ast.Attribute):
                self.assertIn(node.func.attr, METHODS + own, (name, node.lineno))

    def test_builtins_are_called(self):
        for name, tree in TREES.items():
            called = {id(node.func) for node in ast.walk(tree) if isinstance(node, ast.Call)}
            for node in ast.walk(tree):
                if isinstance(node, ast.Call) and isinstance(node.func, ast.Name) and node.func.id == "isinstance":
                    called.update(id(part) for part in ast.walk(node.args[1]))
                if isinstance(node, ast.ClassDef):
                    called.update(id(part) for part in node.bases)
            for node in ast.walk(tree):
                if isinstance(node, ast.Name) and node.id in BUILTINS:
                    self.assertIn(id(node), called, (name, node.lineno))

    def test_what_ends_a_trial_only_assigns(self):
        for name, node in nodes(ast.FunctionDef):
            if node.name == "__exit__":
                for row in node.body:
                    self.assertIsInstance(row, ast.Assign, (name, row.lineno))
                    self.assertIsInstance(row.targets[0], ast.Attribute, (name, row.lineno))
                    self.assertIsInstance(row.value, (ast.Constant, ast.Name, ast.Attribute), (name, row.lineno))

    def test_products_are_iterated_at_once(self):
        for name, tree in TREES.items():
            heads = [part.iter for part in ast.walk(tree) if isinstance(part, (ast.For, ast.comprehension))]
            taken = [alias.name for row in tree.body if isinstance(row, ast.ImportFrom) and row.module == "itertools"
                     for alias in row.names]
            for node in ast.walk(tree):
                if isinstance(node, ast.Name) and node.id in taken:
                    self.assertIn(id(node), [id(head.func) for head in heads if isinstance(head, ast.Call)],
                                  (name, node.lineno))
        # They do not stand beside objects that are iterated over and have a length.
        self.assertNotIn("__iter__", [node.name for _, node in nodes(ast.FunctionDef)])

    def test_tables_at_module_level_hold_no_lists_or_dicts(self):
        for name, tree in TREES.items():
            for row in tree.body:
                if isinstance(row, ast.Assign):
                    inner = [part for part in ast.walk(row.value) if part is not row.value]
                    self.assertFalse([part for part in inner if isinstance(part, (ast.List, ast.Dict))], name)

    def test_actions_of_a_table_are_named_before_they_are_called(self):
        for name, node in nodes(ast.Call):
            self.assertIsInstance(node.func, (ast.Name, ast.Attribute), (name, node.lineno))
