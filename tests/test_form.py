"""The form of the code: the rules of LANGUAGE.md that can be read off the files of the package."""
import ast
import builtins
import os
import re
import unittest
import warnings

ROOT = os.path.dirname(os.path.dirname(os.path.abspath(__file__)))
PACKAGE = os.path.join(ROOT, "outshiners")
LIBRARY = {
    "heapq": {"heappush", "heappop", "heapify", "heapreplace", "heappushpop"},
    "math": {"gcd", "lcm", "isqrt", "comb", "perm", "factorial"},
    "itertools": {
        "product", "combinations", "permutations", "chain", "accumulate", "pairwise", "islice", "zip_longest",
    },
    "collections": {"defaultdict", "deque"},
}
BUILTINS = set(
    "len range enumerate zip min max sum abs sorted reversed int str bool bytes list tuple dict set isinstance ord repr"
    " any all divmod iter next map super property staticmethod classmethod"
    " Exception ValueError TypeError KeyError IndexError LookupError ZeroDivisionError ArithmeticError OverflowError"
    " RuntimeError NotImplementedError AttributeError StopIteration NotImplemented".split()
)
VALUE_METHODS = set(
    "append clear copy count endswith extend find get index insert isalnum isalpha isdigit islower isspace isupper items"
    " join keys ljust lower lstrip partition pop remove replace reverse rfind rjust rpartition rsplit rstrip setdefault"
    " split splitlines startswith strip update upper values zfill bit_length title capitalize swapcase casefold center"
    " expandtabs removeprefix removesuffix rindex isascii isdecimal isnumeric istitle isidentifier isprintable translate"
    " sort add discard".split()
)
OPERATORS = {
    "__init__", "__eq__", "__repr__", "__str__", "__len__", "__enter__", "__exit__", "__call__", "__iter__",
    "__lt__", "__le__", "__gt__", "__ge__", "__ne__", "__add__", "__sub__", "__mul__", "__and__", "__or__", "__xor__",
    "__neg__", "__bool__", "__contains__", "__getitem__", "__setitem__",
}
WORDS = set(
    "type typing typing_extensions enum Enum IntEnum StrEnum Flag IntFlag Generic Protocol ABC ABCMeta namedtuple"
    " NamedTuple TypedDict TYPE_CHECKING abstractmethod register mro elements open input law version_info"
    " with_traceback add_note attrgetter breakpoint builtins compile copyright credits delattr dir eval exec exit gc"
    " getattr globals hasattr help id importlib license locals methodcaller os quit setattr vars sys".split()
)
BARRED = (
    ast.AsyncFunctionDef, ast.AsyncFor, ast.AsyncWith, ast.Await, ast.Global, ast.Div, ast.GeneratorExp, ast.Yield,
    ast.YieldFrom, ast.Import, ast.AnnAssign, ast.MatMult,
)
LAZY = {"zip", "enumerate", "reversed", "range", "map", "items", "keys", "values"}
ITERATED_BY = {
    "list", "tuple", "dict", "sorted", "sum", "any", "all", "enumerate", "zip", "min", "max", "join", "iter",
}


def texts():
    """The file names of the package with their texts."""
    found = {}
    for name in sorted(os.listdir(PACKAGE)):
        if name != "__pycache__":
            with open(os.path.join(PACKAGE, name), encoding="utf-8") as file:
                found[name] = file.read()
    return found


def is_plain(node):
    """True if the expression is a value that may stand at module level."""
    allowed = (
        ast.Constant, ast.Tuple, ast.List, ast.Dict, ast.Name, ast.BinOp, ast.UnaryOp, ast.operator, ast.unaryop,
        ast.expr_context,
    )
    return all(isinstance(part, allowed) for part in ast.walk(node))


def is_set(node):
    """True if the expression makes a set."""
    return isinstance(node, (ast.Set, ast.SetComp)) or getattr(getattr(node, "func", None), "id", None) == "set"


class Form(unittest.TestCase):
    def setUp(self):
        self.texts = texts()
        self.trees = {name: ast.parse(text) for name, text in self.texts.items()}
        self.stored = {
            node.attr for tree in self.trees.values() for node in ast.walk(tree)
            if isinstance(node, ast.Attribute) and isinstance(node.ctx, ast.Store)
        }
        self.functions = [
            (name, node) for name, tree in self.trees.items() for node in ast.walk(tree)
            if isinstance(node, ast.FunctionDef)
        ]
        self.classes = [
            (name, node) for name, tree in self.trees.items() for node in ast.walk(tree) if isinstance(node, ast.ClassDef)
        ]

    def nodes(self, *kinds):
        """All nodes of these kinds, each with its file and line."""
        for name, tree in self.trees.items():
            for node in ast.walk(tree):
                if isinstance(node, kinds):
                    yield f"{name}:{getattr(node, 'lineno', 0)}", node

    def test_files(self):
        for name, text in self.texts.items():
            self.assertRegex(name, r"^[a-z_]+\.py$")
            lines = text.split("\n")
            self.assertLessEqual(len(lines), 399, name)
            self.assertLessEqual(max(len(line) for line in lines), 120, name)
            self.assertTrue(all(sign == "\n" or " " <= sign <= "~" for sign in text), name)

    def test_no_warnings(self):
        for name, text in self.texts.items():
            with warnings.catch_warnings():
                warnings.simplefilter("error")
                compile(text, name, "exec")

    def test_barred_nodes(self):
        for where, node in self.nodes(*BARRED):
            self.fail(f"{where}: {type(node).__name__}")

    def test_imports(self):
        known = {name[:-3]: {n.name for n in tree.body if hasattr(n, "name")} for name, tree in self.trees.items()}
        for name, tree in self.trees.items():
            for node in tree.body:
                if isinstance(node, ast.Assign):
                    known[name[:-3]].add(node.targets[0].id)
        for where, node in self.nodes(ast.ImportFrom):
            names = {alias.name for alias in node.names}
            self.assertEqual((node.level, [a.asname for a in node.names if a.asname]), (0, []), where)
            package, _, module = node.module.partition(".")
            told = known[module] if package == "outshiners" else LIBRARY[package]
            self.assertEqual(names - told, set(), where)

    def test_imports_make_no_ring(self):
        above = {
            name: {node.module.split(".")[-1] + ".py" for node in tree.body if isinstance(node, ast.ImportFrom)}
            for name, tree in self.trees.items()
        }
        while above:
            free = [name for name, needed in above.items() if not needed & set(above)]
            self.assertNotEqual(free, [], above)
            above = {name: needed for name, needed in above.items() if name not in free}

    def test_every_import_is_used_and_kept(self):
        for name, tree in self.trees.items():
            imported = [a.name for n in tree.body if isinstance(n, ast.ImportFrom) for a in n.names]
            bound = imported + [n.name for n in tree.body if hasattr(n, "name")]
            bound += [n.targets[0].id for n in tree.body if isinstance(n, ast.Assign)]
            self.assertEqual(len(bound), len(set(bound)), name)
            used = [n.id for n in ast.walk(tree) if isinstance(n, ast.Name)]
            self.assertEqual(set(imported) - set(used), set(), name)
            taken = set(imported) | {n.name for n in tree.body if isinstance(n, ast.ClassDef)}
            local = {n.id for n in ast.walk(tree) if isinstance(n, ast.Name) and isinstance(n.ctx, ast.Store)}
            local |= {n.arg for n in ast.walk(tree) if isinstance(n, ast.arg)}
            self.assertEqual(taken & local, set(), name)

    def test_module_level(self):
        for name, tree in self.trees.items():
            for place, node in enumerate(tree.body):
                docstring = place == 0 and isinstance(node, ast.Expr) and isinstance(node.value, ast.Constant)
                value = isinstance(node, ast.Assign) and len(node.targets) == 1 and is_plain(node.value)
                defined = isinstance(node, (ast.ImportFrom, ast.FunctionDef, ast.ClassDef))
                self.assertTrue(docstring or value or defined, f"{name}:{node.lineno}")

    def test_functions(self):
        for name, node in self.functions:
            where = f"{name}:{node.lineno}"
            self.assertLessEqual(node.end_lineno - node.lineno + 1, 40, where)
            self.assertIsNone(node.returns, where)
            told = {getattr(d, "id", getattr(d, "attr", None)) for d in node.decorator_list}
            self.assertLessEqual(told, {"property", "staticmethod", "classmethod", "setter"}, where)
            for default in node.args.defaults + [d for d in node.args.kw_defaults if d]:
                self.assertTrue(is_plain(default), where)
            if node.name.startswith("__"):
                self.assertIn(node.name, OPERATORS, where)

    def test_docstrings(self):
        for name, node in self.functions + self.classes:
            if not node.name.startswith("__"):
                self.assertIsNotNone(ast.get_docstring(node), f"{name}:{node.lineno}")

    def test_names(self):
        bound = [(where, node.id) for where, node in self.nodes(ast.Name) if not isinstance(node.ctx, ast.Load)]
        bound += [(where, node.arg) for where, node in self.nodes(ast.arg)]
        bound += [(name, node.name) for name, node in self.functions + self.classes]
        for where, name in bound:
            self.assertRegex(name, r"^(_|_?[A-Za-z][A-Za-z0-9_]*|__[a-z]+__)$", where)
            self.assertNotIn(name, dir(builtins), where)
            self.assertNotIn(name, WORDS, where)
        for where, node in self.nodes(ast.Name):
            if isinstance(node.ctx, ast.Load):
                self.assertNotEqual(node.id, "_", where)
                if node.id in dir(builtins):
                    self.assertIn(node.id, BUILTINS, where)
        for where, node in self.nodes(ast.Attribute):
            self.assertNotRegex(node.attr, r"^__(?!init__$|class__$|name__$)", where)

    def test_methods_of_builtin_values(self):
        of_values = {name for kind in (str, bytes, int, list, tuple, dict, set) for name in dir(kind)}
        for where, node in self.nodes(ast.Attribute):
            if node.attr in of_values:
                self.assertIn(node.attr, VALUE_METHODS, where)

    def test_own_names_are_free(self):
        of_values = {name for kind in (str, bytes, int, list, tuple, dict, set) for name in dir(kind)}
        properties = set()
        methods = set()
        for name, node in self.functions:
            if node.args.args and node.args.args[0].arg in ("self", "cls") and not node.name.startswith("__"):
                is_property = any(getattr(d, "id", "") == "property" for d in node.decorator_list)
                (properties if is_property else methods).add(node.name)
        self.assertEqual(properties & methods, set())
        self.assertEqual((properties | methods) & self.stored, set())
        self.assertEqual((properties | methods | self.stored) & of_values, set())

    def test_is(self):
        for where, node in self.nodes(ast.Compare):
            for operator, right in zip(node.ops, node.comparators):
                if isinstance(operator, (ast.Is, ast.IsNot)):
                    self.assertTrue(isinstance(right, ast.Constant) and right.value in (None, True, False), where)

    def test_raise_creates_its_error(self):
        for where, node in self.nodes(ast.Raise):
            self.assertTrue(node.exc is None or isinstance(node.exc, ast.Call), where)

    def test_words_and_strings(self):
        for where, node in self.nodes(ast.Constant):
            if isinstance(node.value, str):
                self.assertNotIn("%", node.value, where)
                self.assertNotRegex(node.value, r"\._$|\.__$|^__.*__$", where)
            self.assertNotIsInstance(node.value, (float, complex), where)
        for name, text in self.texts.items():
            code = re.sub(r'"""[^"]*"""|#[^\n]*', "", text)
            self.assertEqual(set(re.findall(r"\w+", code)) & WORDS, set(), name)
            self.assertNotRegex(text, r"_wall|dataclass|overload|contextmanager", name)

    def test_sets_are_sorted_measured_asked_or_kept_in_one_name(self):
        fitting = set()
        for _, node in self.nodes(ast.Call):
            if getattr(node.func, "id", None) in ("sorted", "len"):
                # Several sets may be joined by signs, each one written there.
                waiting = list(node.args)
                while waiting:
                    argument = waiting.pop()
                    fitting.add(id(argument))
                    if isinstance(argument, ast.BinOp):
                        waiting += [argument.left, argument.right]
        for _, node in self.nodes(ast.Compare):
            fitting.update(id(part) for part in [node.left, *node.comparators])
        for name, function in self.functions:
            stored = [node for node in ast.walk(function) if isinstance(node, ast.Assign) and is_set(node.value)]
            for node in stored:
                fitting.add(id(node.value))
                target = node.targets[0]
                uses = [n for n in ast.walk(function) if isinstance(n, ast.Name) and n.id == target.id]
                self.assertEqual(sum(isinstance(n.ctx, ast.Store) for n in uses), 1, f"{name}:{node.lineno}")
                parents = {id(child): parent for parent in ast.walk(function) for child in ast.iter_child_nodes(parent)}
                for use in uses:
                    parent = parents[id(use)]
                    told = isinstance(parent, (ast.Assign, ast.Compare)) or getattr(parent, "attr", "") in ("add", "discard")
                    told = told or getattr(getattr(parent, "func", None), "id", "") in ("sorted", "len")
                    self.assertTrue(told, f"{name}:{use.lineno}")
        for where, node in self.nodes(ast.Call, ast.Set, ast.SetComp):
            if is_set(node):
                self.assertTrue(id(node) in fitting, where)

    def test_products_are_iterated_at_once(self):
        fitting = {id(node.iter) for _, node in self.nodes(ast.For, ast.comprehension)}
        for where, node in self.nodes(ast.Call):
            if getattr(node.func, "id", None) in ("product", "combinations", "permutations"):
                self.assertTrue(id(node) in fitting, where)
                self.assertEqual([part for part in node.args if isinstance(part, ast.Starred)] + node.keywords, [], where)

    def test_caught_errors(self):
        own = {node.name for name, node in self.classes if name == "faults.py"}
        for where, node in self.nodes(ast.ExceptHandler):
            self.assertIn(getattr(node.type, "id", None), own, where)

    def test_calls_pass_what_own_functions_take(self):
        taken = {}
        for name, tree in self.trees.items():
            for node in tree.body:
                if isinstance(node, ast.FunctionDef):
                    taken.setdefault(node.name, []).append(node.args)
        for where, node in self.nodes(ast.Call):
            told = taken.get(getattr(node.func, "id", None), [])
            if len(told) == 1 and not any(isinstance(part, ast.Starred) for part in node.args):
                names = [part.arg for part in told[0].args]
                passed = names[:len(node.args)] + [keyword.arg for keyword in node.keywords]
                needed = names[:len(names) - len(told[0].defaults)]
                self.assertLessEqual(len(node.args), len(names), where)
                self.assertEqual(len(passed), len(set(passed)), where)
                self.assertLessEqual(set(needed), set(passed), where)
                self.assertLessEqual(set(passed), set(names) | {part.arg for part in told[0].kwonlyargs}, where)

    def test_no_own_sort(self):
        for where, node in self.nodes(ast.Attribute):
            self.assertNotEqual(node.attr, "sort", where)

    def test_lazy_values_are_iterated_on_the_spot(self):
        fitting = set()
        for _, node in self.nodes(ast.For, ast.comprehension):
            fitting.add(id(node.iter))
        for _, node in self.nodes(ast.Call):
            name = getattr(node.func, "id", getattr(node.func, "attr", None))
            if name in ITERATED_BY:
                fitting.update(id(argument) for argument in node.args)
            if name == "reversed" and getattr(getattr(node.args[0], "func", None), "id", None) == "range":
                fitting.add(id(node.args[0]))
        for _, node in self.nodes(ast.Assign):
            if getattr(getattr(node.value, "func", None), "id", None) == "range":
                fitting.add(id(node.value))
        for where, node in self.nodes(ast.Call):
            if getattr(node.func, "id", getattr(node.func, "attr", None)) in LAZY:
                self.assertTrue(id(node) in fitting, where)


if __name__ == "__main__":
    unittest.main()
