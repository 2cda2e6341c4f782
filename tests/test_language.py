"""Looks for code of the package that lies outside of the Python subset in which it is to be written.

It sees a good part of the rules L1 to L28, not all of them.
"""

import ast
import builtins
import re
import unittest
from pathlib import Path

FOLDER = Path(__file__).resolve().parent.parent / "fittingpasts"
NAMES = sorted(path.name for path in FOLDER.iterdir() if path.name != "__pycache__")
TEXTS = {name: (FOLDER / name).read_text("utf-8") for name in NAMES if name.endswith(".py")}
TREES = {name: ast.parse(text) for name, text in TEXTS.items()}

LIBRARY = {
    "heapq": {"heappush", "heappop", "heapify", "heapreplace", "heappushpop"},
    "math": {"gcd", "lcm", "isqrt", "comb", "perm", "factorial"},
    "itertools": {"product", "combinations", "permutations"},
}
ITERATING = {"list", "tuple", "dict", "sorted", "sum", "min", "max", "any", "all", "enumerate", "zip"}
BUILTINS = ITERATING | set(
    "len range abs reversed int str bool set isinstance ord repr divmod iter next map property staticmethod "
    "classmethod super Exception ValueError TypeError KeyError IndexError LookupError ZeroDivisionError "
    "ArithmeticError OverflowError RuntimeError NotImplementedError NotImplemented".split()
)
OPERATORS = set(
    "__lt__ __le__ __gt__ __ge__ __ne__ __add__ __sub__ __mul__ __floordiv__ __mod__ __pow__ __and__ __or__ __xor__ "
    "__lshift__ __rshift__ __neg__ __pos__ __invert__ __abs__ __bool__ __contains__ __getitem__".split()
)
QUIET = OPERATORS | {"__eq__", "__str__", "__repr__", "__len__"}
DUNDER = QUIET | {"__init__", "__enter__", "__exit__", "__call__", "__iter__", "__setitem__"}
METHODS = set(
    "append clear copy count endswith extend find get index insert isalnum isalpha isdigit islower isspace isupper "
    "items join keys ljust lower lstrip partition pop remove replace reverse rfind rjust rpartition rsplit rstrip "
    "setdefault split splitlines startswith strip update upper values zfill bit_length add discard title capitalize "
    "swapcase casefold center expandtabs removeprefix removesuffix rindex isascii isdecimal isnumeric".split()
)
CHANGING = set("append clear extend insert pop remove reverse setdefault update add discard sort".split())
BARRED_WORDS = set(
    "type typing typing_extensions enum Enum IntEnum StrEnum Flag IntFlag Generic Protocol ABC ABCMeta namedtuple "
    "NamedTuple TypedDict TYPE_CHECKING abstractmethod".split()
)
BARRED_NAMES = set(
    "register mro elements open input law version_info with_traceback add_note attrgetter breakpoint builtins compile "
    "copyright credits delattr dir eval exec exit gc getattr globals hasattr help id importlib license locals "
    "methodcaller os quit setattr type vars sys chr bytes frozenset print".split()
)
OPEN_CALLS = {"zip", "enumerate", "reversed", "range", "map"}
STATEMENTS = (
    ast.Assign, ast.AugAssign, ast.If, ast.While, ast.For, ast.Return, ast.Break, ast.Continue, ast.Pass, ast.Raise,
    ast.Assert, ast.Delete, ast.Nonlocal, ast.Match, ast.With, ast.Try, ast.Expr, ast.FunctionDef, ast.ClassDef,
    ast.ImportFrom, ast.AnnAssign,
)
COMPREHENSIONS = (ast.ListComp, ast.DictComp, ast.SetComp)


def functions_of(tree):
    return [node for node in ast.walk(tree) if isinstance(node, ast.FunctionDef)]


def bound_in(function):
    """The parameters and the variables of a function."""
    args = function.args
    rows = [*args.posonlyargs, *args.args, *args.kwonlyargs, args.vararg, args.kwarg]
    names = {row.arg for row in rows if row is not None}
    for node in ast.walk(function):
        if isinstance(node, ast.Name) and isinstance(node.ctx, ast.Store):
            names.add(node.id)
    return names


def called(node):
    """The name of what a call calls, without the object before a dot."""
    if isinstance(node.func, ast.Name):
        return node.func.id
    return node.func.attr if isinstance(node.func, ast.Attribute) else ""


def has_yield(function):
    return any(isinstance(node, (ast.Yield, ast.YieldFrom)) for node in ast.walk(function))


def parents_in(tree):
    return {child: node for node in ast.walk(tree) for child in ast.iter_child_nodes(node)}


ALL_FUNCTIONS = [function for tree in TREES.values() for function in functions_of(tree)]
ALL_CLASSES = [node for tree in TREES.values() for node in ast.walk(tree) if isinstance(node, ast.ClassDef)]
GENERATORS = {function.name for function in ALL_FUNCTIONS if has_yield(function)}


class LanguageTest(unittest.TestCase):
    def each(self, *kinds):
        """Yield (file, node, parents) for each node of these kinds."""
        for name, tree in TREES.items():
            parents = parents_in(tree)
            for node in ast.walk(tree):
                if isinstance(node, kinds):
                    yield name, node, parents

    def refuse(self, rule, name, node, wrong):
        self.assertFalse(wrong, f"{rule}: {name}, line {getattr(node, 'lineno', node)}")

    def test_l1_l14_files(self):
        for name in NAMES:
            self.assertRegex(name, r"\A[a-z0-9_]+\.py\Z")
            self.assertNotIn(name[:-3], [*LIBRARY, *dir(builtins), "test", "tests", "testing", "site", "conftest"])
        self.assertLessEqual(len(NAMES), 100)
        self.assertIn("__init__.py", NAMES)

    def test_l10_l12_l14_sizes_and_characters(self):
        for name, text in TEXTS.items():
            lines = text.split("\n")
            self.assertLessEqual(len(lines), 400, name)
            for number, line in enumerate(lines, 1):
                self.refuse("L10", name, number, len(line) > 120)
                self.refuse("L14", name, number, not all(" " <= sign <= "~" for sign in line))
            self.refuse("L12", name, 0, "_wall" in text or "_WallAttr" in text)
            self.refuse("L17", name, 0, re.search(r"\(type\)|Meta|metaclass=|dataclass|overload|contextmanager", text))
        for name, node, _ in self.each(ast.FunctionDef):
            self.refuse("L10", name, node, node.end_lineno - node.lineno + 1 > 40)

    def test_l2_l16_imports(self):
        defined = {
            name[:-3]: {node.name for node in tree.body if isinstance(node, (ast.FunctionDef, ast.ClassDef))}
            | {node.targets[0].id for node in tree.body if isinstance(node, ast.Assign)}
            for name, tree in TREES.items()
        }
        reached = {name[:-3]: set() for name in TREES}
        for name, node, parents in self.each(ast.Import, ast.ImportFrom):
            self.refuse("L16", name, node, isinstance(node, ast.Import) or node.level != 0)
            self.refuse("L2", name, node, not isinstance(parents[node], ast.Module))
            words = node.module.split(".")
            for row in node.names:
                self.refuse("L2", name, node, row.asname is not None)
                if words[0] == "fittingpasts" and len(words) == 2:
                    self.refuse("L16", name, node, row.name not in defined[words[1]])
                    reached[name[:-3]].add(words[1])
                else:
                    self.refuse("L2", name, node, row.name not in LIBRARY.get(node.module, ()))
        for _ in reached:
            for name in reached:
                reached[name] = reached[name].union(*[reached[other] for other in reached[name]])
        for name, others in reached.items():
            self.assertNotIn(name, others, "L16: files import from each other")

    def test_l2_library_names_are_only_called(self):
        every = set().union(*LIBRARY.values())
        for name, node, parents in self.each(ast.Name):
            if node.id in every:
                call = parents[node]
                right = isinstance(call, ast.Call) and call.func is node and not call.keywords
                self.refuse("L2", name, node, not right or any(isinstance(arg, ast.Starred) for arg in call.args))

    def test_l3_l15_module_level(self):
        for name, tree in TREES.items():
            bound = []
            for at, node in enumerate(tree.body):
                if isinstance(node, ast.Assign):
                    single = len(node.targets) == 1 and isinstance(node.targets[0], ast.Name)
                    self.refuse("L3", name, node, not single)
                    self.check_plain(node.value, bound)
                    bound.append(node.targets[0].id)
                elif isinstance(node, (ast.FunctionDef, ast.ClassDef)):
                    bound.append(node.name)
                elif isinstance(node, ast.ImportFrom):
                    bound += [row.name for row in node.names]
                    self.refuse("L2", name, node, not all(
                        isinstance(above, (ast.Expr, ast.ImportFrom)) for above in tree.body[:at]
                    ))
                else:
                    self.refuse("L3", name, node, at > 0 or ast.get_docstring(tree) is None)
            self.assertEqual(len(bound), len(set(bound)), f"L15: {name}")
            self.assertEqual(set(bound) & set(dir(builtins)), set(), f"L15: {name}")

    def check_plain(self, node, bound):
        """A value at module level is plain; in a dict there may also be functions that are defined above."""
        if isinstance(node, ast.Dict):
            for key, value in zip(node.keys, node.values):
                ast.literal_eval(key)
                if isinstance(value, ast.Name):
                    self.assertIn(value.id, bound, "L3")
                else:
                    ast.literal_eval(value)
        else:
            ast.literal_eval(node)

    def test_l4_l5_functions_and_classes(self):
        for name, node, parents in self.each(ast.FunctionDef):
            for over in node.decorator_list:
                words = ast.unparse(over)
                right = words in ("property", "staticmethod", "classmethod") or words == f"{node.name}.setter"
                self.refuse("L4", name, node, not right or not isinstance(parents[node], ast.ClassDef))
            if node.name.startswith("__"):
                self.refuse("L5", name, node, node.name not in DUNDER or not isinstance(parents[node], ast.ClassDef))
                self.refuse("L23", name, node, has_yield(node) and node.name != "__iter__")
            for default in [*node.args.defaults, *node.args.kw_defaults]:
                if default is not None:
                    ast.literal_eval(default)
            self.refuse("L4", name, node, node.args.posonlyargs)
        for name, node, parents in self.each(ast.ClassDef):
            self.refuse("L15", name, node, not isinstance(parents[node], ast.Module))
            self.refuse("L5", name, node, node.decorator_list or node.keywords)
            for row in node.body:
                if isinstance(row, ast.Assign):
                    self.refuse("L5", name, row, len(row.targets) != 1 or not isinstance(row.targets[0], ast.Name))
                    ast.literal_eval(row.value)
                else:
                    told = isinstance(row, ast.Expr) and isinstance(row.value, ast.Constant)
                    self.refuse("L5", name, row, not told and not isinstance(row, ast.FunctionDef))
            methods = [row.name for row in node.body if isinstance(row, ast.FunctionDef)]
            self.refuse("L5", name, node, "__getitem__" in methods and "__iter__" not in methods)
            plain = [row for row in node.body if not (isinstance(row, ast.FunctionDef) and row.decorator_list)]
            names = [row.name for row in plain if isinstance(row, ast.FunctionDef)]
            self.assertEqual(len(names), len(set(names)), f"L18: {node.name}")

    def test_l6_l7_statements_and_expressions(self):
        for name, node, _ in self.each(ast.stmt):
            self.refuse("L6", name, node, not isinstance(node, STATEMENTS))
        for name, node, _ in self.each(ast.GeneratorExp, ast.Await, ast.Div, ast.Set):
            self.refuse("L7", name, node, not isinstance(node, ast.Set))
        for name, node, _ in self.each(ast.Constant):
            self.refuse("L7", name, node, isinstance(node.value, (float, complex, bytes)) or node.value is ...)
            if isinstance(node.value, str):
                self.refuse("L27", name, node, "%" in node.value or node.value.endswith(("._", ".__")))
                self.refuse("L27", name, node, node.value.startswith("__"))
        for name, node, _ in self.each(ast.BinOp):
            two = isinstance(node.left, ast.Constant) and isinstance(node.op, ast.Pow)
            self.refuse("L27", name, node, two and not isinstance(node.right, ast.Constant))
        for name, node, _ in self.each(ast.Compare):
            for sign, side in zip(node.ops, node.comparators):
                if isinstance(sign, (ast.Is, ast.IsNot)):
                    self.refuse("L20", name, node, not isinstance(side, ast.Constant))
        for name, node, parents in self.each(*COMPREHENSIONS):
            self.refuse("L7", name, node, isinstance(parents[node], ast.Module))

    def test_l8_l12_l15_l17_names(self):
        for name, tree in TREES.items():
            taken = {node.name for node in tree.body if isinstance(node, ast.ClassDef)}
            taken |= {row.name for node in tree.body if isinstance(node, ast.ImportFrom) for row in node.names}
            for function in functions_of(tree):
                names = bound_in(function)
                self.refuse("L15", name, function, names & taken or names & set(dir(builtins)))
                self.refuse("L17", name, function, names & BARRED_NAMES or function.name in BARRED_NAMES)
                self.refuse("L23", name, function, function.name in METHODS & GENERATORS)
        for name, node, _ in self.each(ast.Name):
            known = node.id in dir(builtins)
            self.refuse("L8", name, node, known and node.id not in BUILTINS)
            self.refuse("L12", name, node, node.id.startswith("__"))
            self.refuse("L12", name, node, node.id == "_" and not isinstance(node.ctx, ast.Store))
        for name, node, _ in self.each(ast.Attribute):
            self.refuse("L8", name, node, node.attr.startswith("__") and node.attr != "__init__")
        for name, text in TEXTS.items():
            self.refuse("L17", name, 0, BARRED_WORDS & set(re.findall(r"[A-Za-z_]+", self.without_texts(name, text))))

    def without_texts(self, name, text):
        """The text of a file without docstrings and comments."""
        tree = ast.parse(text)
        for node in ast.walk(tree):
            if isinstance(node, (ast.Module, ast.ClassDef, ast.FunctionDef)) and ast.get_docstring(node) is not None:
                node.body = node.body[1:] or [ast.Pass()]
        return ast.unparse(tree)

    def test_l18_methods_and_attributes(self):
        attributes = {
            node.attr for tree in TREES.values() for node in ast.walk(tree)
            if isinstance(node, ast.Attribute) and isinstance(node.ctx, ast.Store)
        }
        methods = {row.name for node in ALL_CLASSES for row in node.body if isinstance(row, ast.FunctionDef)}
        self.assertEqual(attributes & methods, set(), "L18")
        self.assertEqual(methods & (BUILTINS | {"print", "bytes"}), set(), "L8")
        functions = [node.name for tree in TREES.values() for node in tree.body if isinstance(node, ast.FunctionDef)]
        for name in GENERATORS:
            every = [function.name for function in ALL_FUNCTIONS if function.name == name]
            self.assertEqual(len(every), 1, f"L23: {name}")
            self.assertNotIn(name, attributes, f"L23: {name}")
        # The interface has this name for a function and for a method.
        self.assertEqual(methods & set(functions), {"is_whole"}, "a method and a function have one name")
        kept = {row.targets[0].id for node in ALL_CLASSES for row in node.body if isinstance(row, ast.Assign)}
        self.assertEqual(kept & (attributes | methods | METHODS), set(), "L5: class values")
        for name, node, _ in self.each(ast.Attribute):
            right = node.attr in attributes | methods | METHODS | kept | {"setter"}
            self.refuse("L18", name, node, not right)

    def test_l19_errors(self):
        own = {node.name for node in ALL_CLASSES}
        for name, node, _ in self.each(ast.ExceptHandler):
            kinds = node.type.elts if isinstance(node.type, ast.Tuple) else [node.type]
            self.refuse("L19", name, node, not all(isinstance(kind, ast.Name) and kind.id in own for kind in kinds))
        for name, node, _ in self.each(ast.Raise):
            known = isinstance(node.exc, ast.Call) and called(node.exc) in own | {"TypeError"}
            self.refuse("L19", name, node, node.exc is not None and not known)

    def test_l22_l25_calls(self):
        own = {function.name for function in ALL_FUNCTIONS} | {node.name for node in ALL_CLASSES}
        for name, node, _ in self.each(ast.Call):
            words = {row.arg for row in node.keywords}
            if isinstance(node.func, ast.Name) and node.func.id in BUILTINS:
                self.refuse("L22", name, node, not words <= {"key", "default", "reverse", "start", "strict"})
            if isinstance(node.func, ast.Attribute):
                self.refuse("L25", name, node, node.func.attr not in METHODS | own)
                self.refuse("L25", name, node, node.func.attr in METHODS - own and words)
        for name, node, parents in self.each(ast.Name):
            if node.id in BUILTINS and not node.id[0].isupper() and node.id not in ("property", "staticmethod"):
                call = parents[node]
                if isinstance(call, ast.Tuple):
                    call = parents[call]
                right = isinstance(call, ast.Call) and (call.func is node or called(call) == "isinstance")
                right = right or isinstance(call, ast.keyword) and call.arg == "key" or node.id == "classmethod"
                self.refuse("L22", name, node, not right)

    def test_l23_what_is_iterated_at_once(self):
        for name, node, parents in self.each(ast.Call):
            over = parents[node]
            looped = isinstance(over, (ast.For, ast.comprehension)) and over.iter is node
            passed = isinstance(over, ast.Call) and called(over) in ITERATING | LIBRARY["itertools"]
            if called(node) in OPEN_CALLS | {"items", "keys", "values"}:
                kept = isinstance(over, ast.Assign) and called(node) == "range"
                tested = isinstance(over, ast.Compare) and isinstance(over.ops[-1], ast.In) and called(node) == "range"
                self.refuse("L23", name, node, not (looped or passed or kept or tested))
            if called(node) in GENERATORS:
                plain = (ast.Name, ast.Attribute, ast.Constant, ast.Tuple)
                self.refuse("L23", name, node, not (looped or passed or isinstance(over, ast.YieldFrom)))
                self.refuse("L23", name, node, not all(isinstance(arg, plain) for arg in node.args))

    def test_l24_sets(self):
        for name, node, parents in self.each(ast.SetComp, ast.Call):
            if isinstance(node, ast.SetComp) or called(node) == "set":
                over = parents[node]
                passed = isinstance(over, ast.Call) and called(over) in ("sorted", "len") and not over.keywords
                tested = isinstance(over, ast.Compare) and over.left is not node
                self.refuse("L24", name, node, not (passed or tested))

    def test_l28_l5_quiet_methods_change_nothing(self):
        by_name = {}
        for function in ALL_FUNCTIONS:
            by_name.setdefault(function.name, []).append(function)
        for node in ALL_CLASSES:
            by_name[node.name] = [row for row in node.body if getattr(row, "name", "") == "__init__"]
        rounds = [
            function for function in ALL_FUNCTIONS
            if function.name in QUIET or "property" in [ast.unparse(over) for over in function.decorator_list]
        ]
        seen = []
        while rounds:
            function = rounds.pop()
            if function in seen:
                continue
            seen.append(function)
            self.check_quiet(function)
            for node in ast.walk(function):
                if isinstance(node, ast.Call):
                    rounds += by_name.get(called(node), [])
        self.assertGreater(len(seen), 30)

    def check_quiet(self, function):
        """The function changes nothing but its variables and lists that it made itself."""
        made = {
            node.targets[0].id for node in ast.walk(function)
            if isinstance(node, ast.Assign) and isinstance(node.targets[0], ast.Name)
            and (isinstance(node.value, (ast.List, ast.ListComp, ast.Dict)) or isinstance(node.value, ast.Call)
                 and called(node.value) in ("list", "dict", "sorted"))
        }
        for node in ast.walk(function):
            if isinstance(node, ast.Attribute) and isinstance(node.ctx, ast.Store):
                self.refuse("L5", function.name, node, function.name != "__init__")
            if isinstance(node, ast.Subscript) and not isinstance(node.ctx, ast.Load):
                mine = isinstance(node.value, ast.Name) and node.value.id in made
                self.refuse("L5", function.name, node, not mine)
            if isinstance(node, ast.AugAssign):
                self.refuse("L5", function.name, node, not isinstance(node.value, ast.Constant))
            if isinstance(node, ast.Call) and isinstance(node.func, ast.Attribute) and node.func.attr in CHANGING:
                mine = isinstance(node.func.value, ast.Name) and node.func.value.id in made
                self.refuse("L5", function.name, node, not mine)


if __name__ == "__main__":
    unittest.main()
