"""The package keeps to the part of Python that it may use, as far as single files show it."""

import ast
import builtins
import pathlib
import re
import unittest

PACKAGE = pathlib.Path(__file__).resolve().parent.parent / "cuetimer"

STATEMENTS = (ast.Assign, ast.AugAssign, ast.AnnAssign, ast.If, ast.While, ast.For, ast.Return, ast.Break, ast.Continue,
              ast.Pass, ast.Raise, ast.Try, ast.Expr, ast.FunctionDef, ast.ClassDef, ast.ImportFrom, ast.Import)
EXPRESSIONS = (ast.BinOp, ast.UnaryOp, ast.BoolOp, ast.Compare, ast.IfExp, ast.Call, ast.Attribute, ast.Subscript,
               ast.Slice, ast.ListComp, ast.JoinedStr, ast.FormattedValue, ast.Constant, ast.Name, ast.List, ast.Tuple,
               ast.Dict, ast.Set, ast.Lambda)
AT_THE_TOP = (ast.ImportFrom, ast.FunctionDef, ast.ClassDef, ast.Assign)
OWN_OF_PYTHON = """len range enumerate zip min max sum abs sorted reversed int str bool list tuple dict set frozenset
    isinstance ord repr any all divmod ValueError KeyError IndexError LookupError ZeroDivisionError ArithmeticError
    OverflowError RuntimeError NotImplementedError StopIteration Exception""".split()
UNDERSCORED = ["__init__", "__eq__", "__repr__", "__str__", "__len__"]
WORDS_OUT = """type typing typing_extensions enum Enum IntEnum StrEnum Flag IntFlag Generic Protocol ABC ABCMeta
    namedtuple NamedTuple TypedDict TYPE_CHECKING abstractmethod""".split()
WITHIN_WORDS_OUT = ["dataclass", "overload", "contextmanager"]
METHODS_OF_PYTHON = """append clear copy count endswith extend find get index insert isalnum isalpha isdigit islower
    isspace isupper items join keys ljust lower lstrip partition pop remove replace reverse rfind rjust rpartition rsplit
    rstrip setdefault split splitlines startswith strip update upper values zfill bit_length""".split()
KEYWORDS = {"sorted": ["key", "reverse"], "min": ["key", "default"], "max": ["key", "default"], "sum": ["start"],
            "enumerate": ["start"], "zip": ["strict"]}
WALKED_AT_ONCE = ["zip", "enumerate", "reversed", "range"]
WALKERS = "list tuple dict sorted sum any all enumerate zip min max".split()


def methods_of(tree):
    classes = [node for node in ast.walk(tree) if isinstance(node, ast.ClassDef)]
    return [part for node in classes for part in node.body if isinstance(part, ast.FunctionDef)]


def names_bound(tree):
    """Every name that a file gives a meaning, methods aside: they may be called like names of Python's own."""
    names = []
    methods = methods_of(tree)
    for node in ast.walk(tree):
        if isinstance(node, (ast.FunctionDef, ast.ClassDef)) and node not in methods:
            names.append(node.name)
        elif isinstance(node, ast.arg):
            names.append(node.arg)
        elif isinstance(node, ast.Name) and isinstance(node.ctx, ast.Store):
            names.append(node.id)
        elif isinstance(node, ast.ExceptHandler) and node.name:
            names.append(node.name)
        elif isinstance(node, ast.ImportFrom):
            names += [part.asname or part.name for part in node.names]
    return names


def names_at_the_top(tree):
    names = []
    for node in tree.body:
        if isinstance(node, (ast.FunctionDef, ast.ClassDef)):
            names.append(node.name)
        elif isinstance(node, ast.ImportFrom):
            names += [part.asname or part.name for part in node.names]
        elif isinstance(node, ast.Assign):
            names += [part.id for part in ast.walk(node.targets[0]) if isinstance(part, ast.Name)]
    return names


def names_within_functions(tree):
    functions = [node for node in ast.walk(tree) if isinstance(node, (ast.FunctionDef, ast.Lambda))]
    names = []
    for node in [part for function in functions for part in ast.walk(function)]:
        if isinstance(node, ast.arg):
            names.append(node.arg)
        elif isinstance(node, ast.Name) and isinstance(node.ctx, ast.Store):
            names.append(node.id)
    return names


def parents_of(tree):
    return {child: node for node in ast.walk(tree) for child in ast.iter_child_nodes(node)}


def called_name(node):
    return node.func.id if isinstance(node, ast.Call) and isinstance(node.func, ast.Name) else None


def is_text(node):
    return isinstance(node, ast.Expr) and isinstance(node.value, ast.Constant) and isinstance(node.value.value, str)


class Language(unittest.TestCase):
    def setUp(self):
        self.files = sorted(PACKAGE.rglob("*.py"))
        self.texts = {path: path.read_bytes().decode("ascii") for path in self.files}
        self.trees = {path: ast.parse(text) for path, text in self.texts.items()}

    def each_node(self, *kinds):
        for path, tree in self.trees.items():
            for node in ast.walk(tree):
                if isinstance(node, kinds):
                    yield f"{path.name}:{getattr(node, 'lineno', 0)}", node

    def test_files(self):
        for path in PACKAGE.rglob("*"):
            if "__pycache__" not in path.parts:
                self.assertTrue(path.is_dir() or re.fullmatch(r"[a-z][a-z0-9_]*\.py|__(init|main)__\.py", path.name), path)
        self.assertIn(PACKAGE / "__init__.py", self.files)

    def test_signs_and_sizes(self):
        for path, text in self.texts.items():
            self.assertRegex(text, r"\A[ -~\n]*\Z", path)
            rows = text.splitlines()
            self.assertLessEqual(len(rows), 400, path)
            self.assertLessEqual(max([len(row) for row in rows], default=0), 120, path)
        for where, node in self.each_node(ast.FunctionDef):
            self.assertLessEqual(node.end_lineno - node.lineno + 1, 40, where)

    def test_words_that_stand_nowhere(self):
        for path, text in self.texts.items():
            self.assertEqual([word for word in re.findall(r"\w+", text) if word in WORDS_OUT], [], path)
            self.assertEqual([word for word in WITHIN_WORDS_OUT if word in text], [], path)

    def test_statements_and_expressions(self):
        for where, node in self.each_node(ast.stmt):
            self.assertIsInstance(node, STATEMENTS, where)
        for where, node in self.each_node(ast.expr):
            self.assertIsInstance(node, EXPRESSIONS, where)
        for where, node in self.each_node(ast.Assign):
            self.assertEqual(len(node.targets), 1, where)
        for where, node in self.each_node(ast.For, ast.While):
            self.assertEqual(node.orelse, [], where)
        for tree in self.trees.values():
            for node in ast.walk(tree):
                if isinstance(node, ast.Expr) and node is not tree.body[0]:
                    self.assertIsInstance(node.value, ast.Call, node.lineno)
        for where, node in self.each_node(ast.Constant):
            self.assertNotIsInstance(node.value, (float, complex, bytes), where)
        for where, node in self.each_node(ast.BinOp, ast.AugAssign):
            self.assertNotIsInstance(node.op, (ast.Div, ast.MatMult), where)

    def test_the_top_of_a_file(self):
        for path, tree in self.trees.items():
            if path.name != "__main__.py":
                body = tree.body[1:] if tree.body and is_text(tree.body[0]) else tree.body
                for node in body:
                    self.assertIsInstance(node, AT_THE_TOP, f"{path.name}:{node.lineno}")

    def test_imports(self):
        for where, node in self.each_node(ast.ImportFrom):
            self.assertEqual(node.level, 0, where)
            self.assertRegex(node.module, r"\A(cuetimer\.|__future__\Z)", where)
            self.assertNotIn("*", [part.name for part in node.names], where)
        for where, node in self.each_node(ast.Import):
            self.assertTrue(where.startswith("__main__.py"), where)

    def test_functions_and_classes(self):
        for where, node in self.each_node(ast.FunctionDef):
            arguments = node.args
            odd = arguments.posonlyargs + arguments.kwonlyargs + [arguments.vararg, arguments.kwarg]
            self.assertEqual([one for one in odd if one], [], where)
            self.assertEqual(node.decorator_list, [], where)
        for where, node in self.each_node(ast.ClassDef):
            self.assertEqual(node.decorator_list + node.keywords, [], where)
            self.assertLessEqual(len(node.bases), 1, where)
            for part in node.body:
                self.assertTrue(isinstance(part, (ast.FunctionDef, ast.Pass)), where)

    def test_names(self):
        for path, tree in self.trees.items():
            bound = names_bound(tree)
            for name in bound + [method.name for method in methods_of(tree)]:
                self.assertTrue(name in UNDERSCORED or re.fullmatch(r"[A-Za-z][A-Za-z0-9_]*", name), f"{path} {name}")
            self.assertEqual([name for name in bound if name in dir(builtins)], [], path)
            if path.name != "__main__.py":
                used = [node.id for node in ast.walk(tree) if isinstance(node, ast.Name)]
                self.assertEqual([name for name in used if name not in bound + OWN_OF_PYTHON], [], path)

    def test_names_are_bound_once_at_the_top(self):
        for path, tree in self.trees.items():
            names = names_at_the_top(tree)
            self.assertEqual(sorted(names), sorted(set(names)), path)
            classes = [node.name for node in tree.body if isinstance(node, ast.ClassDef)]
            drawn = [part.name for node in tree.body if isinstance(node, ast.ImportFrom) for part in node.names]
            within = names_within_functions(tree)
            self.assertEqual([name for name in within if name in classes + drawn], [], path)

    def test_what_is_drawn_is_defined_there_and_nothing_is_drawn_in_a_ring(self):
        trees = {f"cuetimer.{path.stem}": tree for path, tree in self.trees.items()}
        drawn = {}
        for module, tree in trees.items():
            rows = [node for node in tree.body if isinstance(node, ast.ImportFrom) and node.module != "__future__"]
            drawn[module] = [node.module for node in rows]
            for node in rows:
                source = trees[node.module]
                own = [part.name for part in source.body if isinstance(part, (ast.FunctionDef, ast.ClassDef))]
                own += [part.targets[0].id for part in source.body if isinstance(part, ast.Assign)]
                self.assertEqual([part.name for part in node.names if part.name not in own], [], module)
        while drawn:
            free = [module for module, others in drawn.items() if not set(others) & set(drawn)]
            self.assertNotEqual(free, [], sorted(drawn))
            drawn = {module: others for module, others in drawn.items() if module not in free}

    def test_texts_and_f_strings(self):
        for path, text in self.texts.items():
            self.assertNotRegex(text, r"\\[^nt\\'\"]", path)
        for where, node in self.each_node(ast.Constant):
            self.assertFalse(isinstance(node.value, str) and "%" in node.value, where)
        for where, node in self.each_node(ast.FormattedValue):
            self.assertIsInstance(node.value, ast.Name, where)
            self.assertIn(node.conversion, (-1, ord("r")), where)
            self.assertIsNone(node.format_spec, where)

    def test_comparisons_and_powers(self):
        for where, node in self.each_node(ast.Compare):
            if any(isinstance(sign, (ast.Is, ast.IsNot)) for sign in node.ops):
                sides = [part.value for part in [node.left] + node.comparators if isinstance(part, ast.Constant)]
                self.assertTrue(any(side is None or isinstance(side, bool) for side in sides), where)
        for where, node in self.each_node(ast.BinOp):
            if isinstance(node.op, ast.Pow):
                self.assertIsInstance(node.right, ast.Constant, where)
                self.assertIn(node.right.value, range(65), where)

    def test_comprehensions(self):
        for where, node in self.each_node(ast.ListComp):
            self.assertEqual(len(node.generators), 1, where)
            self.assertLessEqual(len(node.generators[0].ifs), 1, where)

    def test_errors_taken(self):
        for where, node in self.each_node(ast.Try):
            self.assertEqual(node.finalbody, [], where)
            for handler in node.handlers:
                self.assertIsNotNone(handler.type, where)
                taken = [part.id for part in ast.walk(handler.type) if isinstance(part, ast.Name)]
                self.assertEqual(set(taken) & {"Exception", "TypeError", "BaseException"}, set(), where)

    def test_methods_and_keywords(self):
        own = [method.name for tree in self.trees.values() for method in methods_of(tree)]
        functions = [name for tree in self.trees.values() for name in names_at_the_top(tree)]
        for where, node in self.each_node(ast.Call):
            if isinstance(node.func, ast.Attribute):
                self.assertIn(node.func.attr, METHODS_OF_PYTHON + own, where)
            name = called_name(node)
            if name not in functions:
                keywords = [part.arg for part in node.keywords]
                self.assertEqual([word for word in keywords if word not in KEYWORDS.get(name, [])], [], where)

    def test_what_is_walked_at_once(self):
        for path, tree in self.trees.items():
            parents = parents_of(tree)
            for node in [node for node in ast.walk(tree) if isinstance(node, ast.Call)]:
                view = isinstance(node.func, ast.Attribute) and node.func.attr in ("items", "keys", "values")
                if view or called_name(node) in WALKED_AT_ONCE:
                    parent = parents[node]
                    walked = isinstance(parent, (ast.For, ast.comprehension)) and parent.iter is node
                    joined = isinstance(parent, ast.Call) and getattr(parent.func, "attr", None) == "join"
                    self.assertTrue(walked or joined or called_name(parent) in WALKERS, f"{path.name}:{node.lineno}")
                if called_name(node) in ("set", "frozenset"):
                    parent = parents[node]
                    self.assertTrue(isinstance(parent, (ast.Compare, ast.BinOp)) or called_name(parent) in ("sorted", "len"),
                                    f"{path.name}:{node.lineno}")

    def test_no_name_is_a_method_here_and_a_value_there(self):
        methods = [method.name for tree in self.trees.values() for method in methods_of(tree)]
        for where, node in self.each_node(ast.Attribute):
            if isinstance(node.ctx, ast.Store):
                self.assertNotIn(node.attr, methods, where)


if __name__ == "__main__":
    unittest.main()
