"""The form of the package: those rules of the language document that can be seen in the files."""

import ast
import builtins
import os
import re
import unittest

TOP = os.path.dirname(os.path.dirname(os.path.abspath(__file__)))
PACKAGE = os.path.join(TOP, "runsbehind")

LIBRARY = {"heapq": {"heappush", "heappop", "heapify", "heapreplace", "heappushpop"},
           "math": {"gcd", "lcm", "isqrt", "comb", "perm", "factorial"},
           "itertools": {"product", "combinations", "permutations"}}
STATEMENTS = (ast.FunctionDef, ast.ClassDef, ast.Return, ast.Delete, ast.Assign, ast.AugAssign, ast.For, ast.While,
              ast.If, ast.Raise, ast.Assert, ast.ImportFrom, ast.Expr, ast.Pass, ast.Break, ast.Continue, ast.Try)
BUILTINS = set("""len range enumerate zip min max sum abs sorted reversed int str bool list tuple dict set isinstance
ord repr any all divmod Exception ValueError TypeError KeyError IndexError LookupError ZeroDivisionError
ArithmeticError OverflowError RuntimeError NotImplementedError AttributeError""".split())
METHODS = set("""append clear copy count endswith extend find get index insert isalnum isalpha isdigit islower isspace
isupper items join keys ljust lower lstrip partition pop remove replace reverse rfind rjust rpartition rsplit rstrip
setdefault split splitlines startswith strip update upper values zfill bit_length""".split())
BARRED = set("""register mro elements open input law version_info with_traceback add_note attrgetter breakpoint builtins
compile copyright credits delattr dir eval exec exit gc globals help id importlib license locals methodcaller os quit
super type vars sys""".split())
WORDS = re.compile(r"\b(type|typing|typing_extensions|enum|Enum|IntEnum|StrEnum|Flag|IntFlag|Generic|Protocol|ABC|ABCMeta"
                   r"|namedtuple|NamedTuple|TypedDict|TYPE_CHECKING|abstractmethod)\b")
ONCE = {"range", "zip", "enumerate", "reversed", "map"}
TAKES = {"list", "tuple", "dict", "sorted", "sum", "any", "all", "enumerate", "zip", "min", "max"}


def files():
    # What Python itself leaves there when it runs is not part of the package.
    return sorted(name for name in os.listdir(PACKAGE) if name != "__pycache__")


def source_of(name):
    with open(os.path.join(PACKAGE, name), "rb") as file:
        return file.read().decode("ascii")


def trees():
    for name in files():
        yield name, ast.parse(source_of(name))


def is_plain(node):
    """Whether what is written there is a plain value, with tuples alone in tuples."""
    if isinstance(node, ast.Tuple):
        return all(is_plain(part) for part in node.elts)
    if isinstance(node, ast.Dict):
        return all(isinstance(key, ast.Constant) and is_plain(part) and not isinstance(part, ast.Dict)
                   for key, part in zip(node.keys, node.values))
    return isinstance(node, ast.Constant)


def named_at_top(tree):
    """All names that the file binds outside of its functions and classes, one for each time."""
    names = [node.name for node in tree.body if hasattr(node, "name")]
    names += [alias.name for node in tree.body if isinstance(node, ast.ImportFrom) for alias in node.names]
    return names + [target.id for node in tree.body if isinstance(node, ast.Assign) for target in node.targets]


def functions_of(tree):
    return [node for node in ast.walk(tree) if isinstance(node, ast.FunctionDef)]


def called(node):
    """The name of what is called, if it is called by a bare name."""
    return node.func.id if isinstance(node, ast.Call) and isinstance(node.func, ast.Name) else None


def stored_in(function):
    """All names that the function binds: parameters, targets, loop variables."""
    names = [node.id for node in ast.walk(function) if isinstance(node, ast.Name) and isinstance(node.ctx, ast.Store)]
    return names + [node.arg for node in ast.walk(function) if isinstance(node, ast.arg)]


def with_parents(tree):
    for parent in ast.walk(tree):
        for child in ast.iter_child_nodes(parent):
            yield parent, child


def is_set(node):
    return isinstance(node, (ast.Set, ast.SetComp)) or called(node) == "set"


class Files(unittest.TestCase):
    def test_names(self):
        self.assertIn("__init__.py", files())
        for name in files():
            self.assertTrue(name == "__init__.py" or re.fullmatch("[a-z][a-z0-9_]*[.]py", name), name)
            self.assertNotIn(name[:-3], dir(builtins))

    def test_characters_and_sizes(self):
        for name in files():
            source = source_of(name)
            self.assertTrue(all(sign == "\n" or " " <= sign <= "~" for sign in source), name)
            lines = source.split("\n")
            self.assertLessEqual(len(lines), 399, name)
            self.assertLessEqual(max(len(line) for line in lines), 120, name)
            self.assertIsNone(re.search("_wall|_WallAttr", source))

    def test_sizes_of_functions(self):
        for name, tree in trees():
            for function in functions_of(tree):
                self.assertLessEqual(function.end_lineno - function.lineno + 1, 40, (name, function.name))


class Statements(unittest.TestCase):
    def test_kinds(self):
        for name, tree in trees():
            for node in ast.walk(tree):
                if isinstance(node, ast.stmt):
                    self.assertIsInstance(node, STATEMENTS, (name, node.lineno))

    def test_module_level(self):
        for name, tree in trees():
            for at, node in enumerate(tree.body):
                docstring = at == 0 and isinstance(node, ast.Expr) and isinstance(node.value, ast.Constant)
                value = isinstance(node, ast.Assign) and len(node.targets) == 1 and is_plain(node.value)
                known = isinstance(node, (ast.ImportFrom, ast.FunctionDef, ast.ClassDef))
                self.assertTrue(docstring or value or known, name)

    def test_what_is_caught(self):
        own = {node.name for node in ast.parse(source_of("errors.py")).body if isinstance(node, ast.ClassDef)}
        for name, tree in trees():
            for node in ast.walk(tree):
                if isinstance(node, ast.Try):
                    self.assertFalse(node.finalbody or node.orelse)
                    for handler in node.handlers:
                        self.assertIn(handler.type.id, own, name)
                        self.assertIsNone(handler.name)

    def test_what_is_raised(self):
        own = {node.name for node in ast.parse(source_of("errors.py")).body if isinstance(node, ast.ClassDef)}
        for name, tree in trees():
            for node in ast.walk(tree):
                if isinstance(node, ast.Raise):
                    self.assertIn(called(node.exc), own, (name, node.lineno))
                    self.assertIsNone(node.cause)

    def test_imports(self):
        for name, tree in trees():
            for node in ast.walk(tree):
                if isinstance(node, ast.ImportFrom):
                    self.assertIn(node, tree.body)
                    self.assertTrue(all(alias.asname is None for alias in node.names))
                    own = node.module.startswith("runsbehind.")
                    barred = {alias.name for alias in node.names} - LIBRARY.get(node.module, set())
                    self.assertTrue(own or not barred, (name, node.module))

    def test_imports_name_the_file_that_defines_them_and_make_no_ring(self):
        defined = {"runsbehind." + name[:-3]: {node.name for node in tree.body if hasattr(node, "name")}
                   | {node.targets[0].id for node in tree.body if isinstance(node, ast.Assign)}
                   for name, tree in trees()}
        needs = {}
        for name, tree in trees():
            asked = [node for node in tree.body if isinstance(node, ast.ImportFrom) and node.module in defined]
            needs[name[:-3]] = {node.module.split(".")[1] for node in asked}
            for node in asked:
                self.assertLessEqual({alias.name for alias in node.names}, defined[node.module])
        while needs:
            free = [name for name in needs if not needs[name] & set(needs)]
            self.assertTrue(free, needs)
            needs = {name: needs[name] for name in needs if name not in free}

    def test_each_import_is_used(self):
        for name, tree in trees():
            read = {node.id for node in ast.walk(tree) if isinstance(node, ast.Name)}
            for node in tree.body:
                if isinstance(node, ast.ImportFrom):
                    self.assertLessEqual({alias.name for alias in node.names}, read, name)

    def test_no_decorators_annotations_defaults_or_nested_functions(self):
        for name, tree in trees():
            for function in functions_of(tree):
                arguments = function.args
                self.assertEqual(function.decorator_list, [])
                self.assertIsNone(function.returns)
                self.assertTrue(all(argument.annotation is None for argument in arguments.args))
                self.assertFalse(arguments.vararg or arguments.kwarg or arguments.kwonlyargs or arguments.posonlyargs)
                self.assertEqual(functions_of(function), [function], name)


class Values(unittest.TestCase):
    def test_signs_and_literals(self):
        for name, tree in trees():
            for parent, node in with_parents(tree):
                self.assertNotIsInstance(node, (ast.Div, ast.JoinedStr, ast.NamedExpr, ast.Yield, ast.YieldFrom,
                                                ast.Await, ast.MatMult, ast.Starred), name)
                if isinstance(node, ast.Constant):
                    self.assertIn(node.value.__class__, (int, str, bool, None.__class__), name)
                    self.assertNotIn("\u0025", str(node.value), name)
                if isinstance(node, ast.Compare) and any(isinstance(sign, (ast.Is, ast.IsNot)) for sign in node.ops):
                    self.assertIn(node.comparators[0].value, (None, True, False))

    def test_no_escapes(self):
        for name in files():
            self.assertNotIn("\\", source_of(name).replace("\\n", ""))

    def test_sets(self):
        for name, tree in trees():
            for parent, node in with_parents(tree):
                if not is_set(node):
                    continue
                with_sign = isinstance(parent, ast.BinOp) and is_set(parent.left) and is_set(parent.right)
                kept = isinstance(parent, ast.Assign) and isinstance(parent.targets[0], ast.Name)
                self.assertTrue(called(parent) in ("sorted", "len") or with_sign or kept, (name, node.lineno))

    def test_kept_sets(self):
        for name, tree in trees():
            for function in functions_of(tree):
                kept = {node.targets[0].id for node in ast.walk(function)
                        if isinstance(node, ast.Assign) and is_set(node.value)}
                for word in kept:
                    self.assertEqual(stored_in(function).count(word), 1)
                for parent, node in with_parents(function):
                    if isinstance(node, ast.Name) and node.id in kept and isinstance(node.ctx, ast.Load):
                        if called(parent) in ("sorted", "len"):
                            continue
                        self.assertIsInstance(parent, (ast.Compare, ast.Attribute, ast.While, ast.If), name)

    def test_iterated_at_once(self):
        for name, tree in trees():
            for parent, node in with_parents(tree):
                is_view = isinstance(node, ast.Call) and isinstance(node.func, ast.Attribute) \
                    and node.func.attr in ("items", "keys", "values")
                if called(node) in ONCE or is_view:
                    in_loop = isinstance(parent, (ast.For, ast.comprehension)) and parent.iter is node
                    in_range = called(node) == "range" and called(parent) == "reversed"
                    self.assertTrue(in_loop or in_range or called(parent) in TAKES, (name, node.lineno))

    def test_lists_where_a_class_compares(self):
        # A Board compares: so what goes through all of something takes a list there.
        for name, tree in trees():
            for parent, node in with_parents(tree):
                if isinstance(node, ast.GeneratorExp):
                    self.assertIn(called(parent), ("list", "tuple", "dict"), (name, node.lineno))

    def test_double_underscore_methods(self):
        tree = ast.parse(source_of("board.py"))
        found = {node.name: node for node in functions_of(tree)}
        for word in ("__eq__", "__len__"):
            self.assertEqual([statement.__class__ for statement in found[word].body], [ast.Expr, ast.Return])
        self.assertEqual(called(found["__len__"].body[1].value), "len")

    def test_methods_that_change_sets_are_those_of_a_board(self):
        # A Board has a method of this name: so it is not called of a set.
        for name, tree in trees():
            for node in ast.walk(tree):
                if isinstance(node, ast.Attribute) and node.attr in ("add", "discard", "sort"):
                    self.assertEqual((name, node.value.id), ("desk.py", "board"))

    def test_methods(self):
        own = {function.name for _, tree in trees() for kind in tree.body if isinstance(kind, ast.ClassDef)
               for function in functions_of(kind)}
        for name, tree in trees():
            for node in ast.walk(tree):
                if isinstance(node, ast.Call) and isinstance(node.func, ast.Attribute):
                    self.assertIn(node.func.attr, METHODS | own, (name, node.lineno))


class Names(unittest.TestCase):
    def test_builtins(self):
        for name, tree in trees():
            bound = set(named_at_top(tree))
            for node in ast.walk(tree):
                if isinstance(node, ast.FunctionDef):
                    bound |= set(stored_in(node))
            for node in ast.walk(tree):
                if isinstance(node, ast.Name) and isinstance(node.ctx, ast.Load):
                    self.assertIn(node.id, bound | BUILTINS, (name, node.lineno))

    def test_bound_once(self):
        for name, tree in trees():
            bound = named_at_top(tree)
            self.assertEqual(len(bound), len(set(bound)), name)
            for function in functions_of(tree):
                self.assertFalse(set(stored_in(function)) & (set(bound) | set(dir(builtins)) | BARRED), function.name)
                self.assertNotIn(function.name, set(dir(builtins)) | BARRED)

    def test_plain_names(self):
        for name, tree in trees():
            for node in ast.walk(tree):
                for field in ("id", "name", "arg", "attr"):
                    word = getattr(node, field, None)
                    if isinstance(word, str) and word not in ("_", "__init__", "__eq__", "__len__"):
                        self.assertRegex(word, "^_?[A-Za-z][A-Za-z0-9_]*$", name)
                        self.assertNotIn(word, BARRED)

    def test_words(self):
        for name in files():
            code = re.sub('""".*?"""', "", source_of(name), flags=re.DOTALL)
            code = re.sub("#.*", "", code)
            self.assertIsNone(WORDS.search(code), name)
            self.assertIsNone(re.search("dataclass|overload|contextmanager", source_of(name)), name)


if __name__ == "__main__":
    unittest.main()
