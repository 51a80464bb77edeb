"""Those rules of the language that can be seen in the files, each told by its number."""

import ast
import io
import pathlib
import re
import tokenize
import unittest

PACKAGE = pathlib.Path(__file__).resolve().parent.parent / "everlit"
FILES = sorted(path for path in PACKAGE.rglob("*.py"))
TREES = {path: ast.parse(path.read_text()) for path in FILES}

BUILTINS = set(
    "len range enumerate zip min max sum abs sorted reversed int str bool list tuple dict set isinstance ord repr "
    "any all divmod True False None Exception ValueError TypeError KeyError IndexError LookupError "
    "ZeroDivisionError ArithmeticError OverflowError RuntimeError NotImplementedError NotImplemented "
    "property classmethod staticmethod super".split())
ALL_BUILTINS = set(dir(__builtins__)) if not isinstance(__builtins__, dict) else set(__builtins__)
METHODS = set(
    "append clear copy count endswith extend find get index insert isalnum isalpha isdigit islower isspace isupper "
    "items join keys ljust lower lstrip partition pop remove replace reverse rfind rjust rpartition rsplit rstrip "
    "setdefault split splitlines startswith strip update upper values zfill bit_length add discard".split())
DUNDERS = set(
    "__init__ __eq__ __repr__ __str__ __len__ __bool__ __iter__ __call__ __contains__ __getitem__ __or__ __lt__ __le__ "
    "__class__ __name__".split())
STATEMENTS = (
    ast.Assign, ast.AugAssign, ast.If, ast.While, ast.For, ast.Return, ast.Break, ast.Continue, ast.Pass, ast.Raise,
    ast.Assert, ast.Delete, ast.Try, ast.Expr, ast.FunctionDef, ast.ClassDef, ast.ImportFrom,
)
BARRED_NAMES = set(
    "mro elements open input law version_info with_traceback add_note register attrgetter breakpoint builtins "
    "compile delattr dir eval exec exit gc globals help importlib locals methodcaller os setattr getattr hasattr "
    "type vars sys typing enum".split())
AT_ONCE = set("list tuple dict sorted sum any all enumerate zip min max join".split())


def nodes(kind):
    """All nodes of these kinds, each with its file."""
    for path, tree in TREES.items():
        for node in ast.walk(tree):
            if isinstance(node, kind):
                yield path, node


def parents(tree):
    return {child: node for node in ast.walk(tree) for child in ast.iter_child_nodes(node)}


def called(node):
    """The bare name of what a call calls."""
    if isinstance(node.func, ast.Name):
        return node.func.id
    return node.func.attr if isinstance(node.func, ast.Attribute) else ""


def is_plain(node, functions=()):
    """Whether a value at module level is written out, or a table with these functions."""
    if isinstance(node, (ast.List, ast.Tuple)):
        return all(is_plain(part, functions) for part in node.elts)
    if isinstance(node, ast.Dict):
        return all(part is not None and is_plain(part, functions) for part in node.keys + node.values)
    if isinstance(node, ast.Name):
        return node.id in functions
    if isinstance(node, ast.UnaryOp):
        return isinstance(node.op, ast.USub) and is_plain(node.operand)
    return isinstance(node, ast.Constant)


def is_setter(node):
    """Whether a decorator makes a method the setter of a property."""
    return isinstance(node, ast.Attribute) and node.attr == "setter"


class LanguageTest(unittest.TestCase):
    def holds(self, truth, rule, path, node):
        line = getattr(node, "lineno", node)
        self.assertTrue(truth, f"{rule} {path.name}:{line}")

    def test_files(self):
        self.assertTrue(FILES)
        for path in PACKAGE.rglob("*"):
            if "__pycache__" not in path.parts:
                self.assertRegex(path.name, r"^([a-z][a-z0-9_]*|__init__|__main__)\.py$", "L1")
                self.assertNotIn(path.stem, ALL_BUILTINS | BARRED_NAMES | {"test", "tests", "site", "conftest"}, "L14")
        self.assertLessEqual(len(FILES), 100, "L14")

    def test_sizes_and_signs(self):
        for path in FILES:
            text = path.read_text()
            self.assertLessEqual(text.count("\n"), 399, f"L10 {path.name}")
            self.assertTrue(all(sign == "\n" or " " <= sign <= "~" for sign in text), f"L14 {path.name}")
            for number, told in enumerate(text.split("\n"), start=1):
                self.holds(len(told) <= 120, "L10", path, number)
        for path, node in nodes(ast.FunctionDef):
            self.holds(node.end_lineno - node.lineno < 40, "L10", path, node)

    def test_imports(self):
        graph = {}
        for path, tree in TREES.items():
            graph[path.stem] = set()
            head = [node for node in tree.body if not isinstance(node, (ast.Expr,))]
            count = sum(isinstance(node, ast.ImportFrom) for node in head)
            for node in ast.walk(tree):
                self.holds(not isinstance(node, ast.Import), "L2", path, getattr(node, "lineno", 0))
                if isinstance(node, ast.ImportFrom):
                    self.holds(node in head[:count], "L2", path, node)
                    self.import_is_right(path, node)
                    graph[path.stem].add(node.module.split(".")[-1])
        while graph:
            ends = [name for name in graph if not graph[name] & set(graph)]
            self.assertTrue(ends, f"L16 {sorted(graph)}")
            graph = {name: graph[name] for name in graph if name not in ends}

    def import_is_right(self, path, node):
        self.holds(node.level == 0 and re.fullmatch(r"everlit\.\w+", node.module or ""), "L2", path, node)
        target = TREES[PACKAGE / (node.module.split(".")[1] + ".py")]
        defined = set()
        for part in target.body:
            if isinstance(part, (ast.FunctionDef, ast.ClassDef)):
                defined.add(part.name)
            if isinstance(part, ast.Assign):
                defined.add(part.targets[0].id)
        for alias in node.names:
            self.holds(alias.asname is None and alias.name in defined, "L16", path, node)

    def test_module_level(self):
        for path, tree in TREES.items():
            bound = []
            functions = []
            for at, node in enumerate(tree.body):
                if isinstance(node, ast.Expr):
                    self.holds(at == 0 and isinstance(node.value, ast.Constant), "L3", path, node)
                elif isinstance(node, ast.Assign):
                    self.holds(len(node.targets) == 1 and isinstance(node.targets[0], ast.Name), "L3", path, node)
                    self.holds(is_plain(node.value, functions), "L3", path, node)
                    bound.append(node.targets[0].id)
                elif isinstance(node, ast.ImportFrom):
                    bound += [alias.name for alias in node.names]
                else:
                    self.holds(isinstance(node, (ast.FunctionDef, ast.ClassDef)), "L3", path, node)
                    bound.append(node.name)
                    functions += [node.name] if isinstance(node, ast.FunctionDef) else []
            self.assertEqual(len(bound), len(set(bound)), f"L15 {path.name}")

    def test_statements(self):
        for path, node in nodes(ast.stmt):
            self.holds(isinstance(node, STATEMENTS), "L6", path, node)
            if isinstance(node, ast.Expr):
                plain = isinstance(node.value, (ast.Call, ast.Yield, ast.YieldFrom, ast.Constant))
                self.holds(plain, "L6", path, node)

    def test_decorators_and_defaults(self):
        for path, node in nodes((ast.FunctionDef, ast.ClassDef)):
            for told in node.decorator_list:
                plain = isinstance(told, ast.Name) and told.id in ("property", "classmethod", "staticmethod")
                self.holds(plain or is_setter(told), "L4", path, node)
        for path, node in nodes(ast.arguments):
            for value in node.defaults + [value for value in node.kw_defaults if value is not None]:
                self.holds(is_plain(value) and not isinstance(value, (ast.List, ast.Dict)), "L4", path, value)

    def test_names(self):
        for path, tree in TREES.items():
            top = {alias.name for node in tree.body if isinstance(node, ast.ImportFrom) for alias in node.names}
            top |= {node.name for node in tree.body if isinstance(node, ast.ClassDef)}
            own = {node.name for node in tree.body if isinstance(node, ast.FunctionDef)}
            values = {node.targets[0].id for node in tree.body if isinstance(node, ast.Assign)}
            for node in tree.body:
                for part in ast.walk(node):
                    if isinstance(part, ast.arg):
                        self.name_is_right(path, part, part.arg, top | own)
                    if isinstance(part, ast.Name) and isinstance(part.ctx, ast.Store) and part.id not in values:
                        self.name_is_right(path, part, part.id, top | own)
            for function in ast.walk(tree):
                if isinstance(function, ast.FunctionDef):
                    self.names_are_known(path, function, top | own | values)

    def name_is_right(self, path, node, name, taken):
        self.holds(name not in taken, "L15", path, node)
        self.holds(name not in ALL_BUILTINS | BARRED_NAMES, "L15", path, node)
        self.holds(re.fullmatch(r"_|_?[A-Za-z][A-Za-z0-9_]*", name), "L12", path, node)

    def names_are_known(self, path, function, top):
        known = {part.arg for part in ast.walk(function) if isinstance(part, ast.arg)}
        known |= {function.name for told in function.decorator_list if is_setter(told)}
        used = [part for part in ast.walk(function) if isinstance(part, ast.Name)]
        known |= {part.id for part in used if isinstance(part.ctx, ast.Store)}
        known |= {part.name for part in ast.walk(function) if isinstance(part, ast.ExceptHandler)}
        for part in used:
            self.holds(part.id in known | top | BUILTINS, "L8", path, part)
            self.holds(part.id != "_" or isinstance(part.ctx, ast.Store), "L12", path, part)

    def test_attributes(self):
        own = {part.name for _, part in nodes(ast.FunctionDef)}
        stored = {node.attr for _, node in nodes(ast.Attribute) if isinstance(node.ctx, ast.Store)}
        told = {part.id for _, node in nodes(ast.ClassDef) for row in node.body
                if isinstance(row, ast.Assign) for part in row.targets}
        for path, node in nodes(ast.Attribute):
            self.holds(node.attr in own | stored | told | METHODS or is_setter(node), "L25", path, node)
            self.holds(node.attr not in BARRED_NAMES, "L17", path, node)
        for path, node in nodes(ast.FunctionDef):
            plain = not node.name.startswith("__")
            self.holds(plain or node.name in DUNDERS, "L5", path, node)
            self.holds(node.name not in BARRED_NAMES | ALL_BUILTINS, "L15", path, node)

    def test_methods_and_attributes_have_different_names(self):
        for path, node in nodes(ast.ClassDef):
            every = [part for part in node.body if isinstance(part, ast.FunctionDef)]
            setters = {part.name for part in every if any(is_setter(told) for told in part.decorator_list)}
            methods = [part.name for part in every if not any(is_setter(told) for told in part.decorator_list)]
            self.holds(len(methods) == len(set(methods)), "L18", path, node)
            stored = {part.attr for part in ast.walk(node)
                      if isinstance(part, ast.Attribute) and isinstance(part.ctx, ast.Store)}
            self.holds(not (stored - setters) & set(methods), "L18", path, node)

    def test_imports_are_used(self):
        for path, tree in TREES.items():
            used = {node.id for node in ast.walk(tree) if isinstance(node, ast.Name)}
            for node in tree.body:
                for alias in node.names if isinstance(node, ast.ImportFrom) else ():
                    self.holds(alias.name in used, "L2", path, node)

    def test_expressions(self):
        for path, node in nodes(ast.AST):
            self.holds(not isinstance(node, (ast.GeneratorExp, ast.Await, ast.NamedExpr)), "L7", path, node)
            self.holds(not isinstance(getattr(node, "op", None), (ast.Div, ast.MatMult, ast.Mod)), "L7", path, node)
            if isinstance(node, ast.Constant):
                self.holds(type(node.value) in (int, str, bool, type(None)), "L7", path, node)
            if isinstance(node, ast.Compare):
                for operator, right in zip(node.ops, node.comparators):
                    if isinstance(operator, (ast.Is, ast.IsNot)):
                        self.holds(getattr(right, "value", 0) in (None, True, False), "L20", path, node)

    def test_calls(self):
        for path, node in nodes(ast.Call):
            if isinstance(node.func, ast.Name) and node.func.id in BUILTINS:
                allowed = {"sorted": ("key", "reverse"), "min": ("key", "default"), "max": ("key", "default"),
                           "sum": ("start",), "enumerate": ("start",)}.get(node.func.id, ())
                self.holds(all(word.arg in allowed for word in node.keywords), "L22", path, node)
            if isinstance(node.func, ast.Attribute) and node.func.attr in METHODS:
                self.holds(not node.keywords and node.func.attr != "sort", "L25", path, node)

    def test_what_is_iterated_at_once(self):
        generators = {node.name for _, node in nodes(ast.FunctionDef)
                      if any(isinstance(part, (ast.Yield, ast.YieldFrom)) for part in ast.walk(node))}
        functions = [node.name for _, node in nodes(ast.FunctionDef)]
        self.assertTrue(all(functions.count(name) == 1 for name in generators), "L23")
        views = {"zip", "enumerate", "reversed", "range", "items", "values", "keys"} | generators
        for path, tree in TREES.items():
            above = parents(tree)
            for node in ast.walk(tree):
                if isinstance(node, ast.Call) and called(node) in views:
                    parent = above[node]
                    looped = isinstance(parent, (ast.For, ast.comprehension)) and parent.iter is node
                    taken = isinstance(parent, ast.Call) and called(parent) in AT_ONCE
                    self.holds(looped or taken, "L23", path, node)

    def test_sets(self):
        for path, tree in TREES.items():
            above = parents(tree)
            for node in ast.walk(tree):
                made = isinstance(node, ast.Call) and isinstance(node.func, ast.Name) and node.func.id == "set"
                if made or isinstance(node, (ast.Set, ast.SetComp)):
                    parent = above[node]
                    taken = isinstance(parent, ast.Call) and called(parent) in ("sorted", "len")
                    self.holds(taken or isinstance(parent, ast.Compare), "L24", path, node)

    def test_strings(self):
        for path in FILES:
            tokens = tokenize.generate_tokens(io.StringIO(path.read_text()).readline)
            for token in tokens:
                told = token.string
                if token.type == tokenize.STRING:
                    self.holds(chr(37) not in told, "L27", path, token.start[0])
                    self.holds(not re.search(r"\\[^nt\\'\"]", told), "L27", path, token.start[0])
                    self.holds(told[0] in "\"'f", "L27", path, token.start[0])
                if token.type == tokenize.NAME:
                    self.holds(not told.startswith("__") or told in DUNDERS, "L8", path, token.start[0])

    def test_barred_words(self):
        for path in FILES:
            text = path.read_text()
            self.assertNotRegex(text, r"_wall|_WallAttr|\(type\)|Meta|metaclass=|dataclass|overload|contextmanager")
            self.assertNotRegex(text, r"\b(typing|enum|Enum|Flag|Generic|Protocol|ABC|namedtuple|NamedTuple)\b")

    def test_double_underscore_methods(self):
        for path, node in nodes(ast.ClassDef):
            methods = {part.name: part for part in node.body if isinstance(part, ast.FunctionDef)}
            if "__getitem__" in methods:
                self.holds("__iter__" in methods, "L5", path, node)
            for name in ("__str__", "__repr__", "__len__"):
                if name in methods:
                    self.ends_rightly(path, node, methods[name])
            if "__init__" in methods:
                found = [part for part in ast.walk(methods["__init__"]) if isinstance(part, ast.Return)]
                self.holds(not found, "L28", path, node)
            if "__eq__" in methods:
                first = methods["__eq__"].body[0]
                told = ast.unparse(first)
                form = rf"(if not |return )isinstance\(other, {node.name}\)"
                self.holds(re.match(form, told), "L28", path, first)

    def ends_rightly(self, path, node, method):
        last = method.body[-1]
        self.holds(isinstance(last, ast.Return), "L28", path, node)
        form = r"return (len\(|\d)" if method.name == "__len__" else r"return (f?'|str\(|repr\()"
        self.holds(re.match(form, ast.unparse(last)), "L28", path, node)
