"""The package keeps to the part of Python that LANGUAGE.md tells: what of it can be seen in the files."""

import ast
import builtins
import pathlib
import re
import unittest

PACKAGE = pathlib.Path(__file__).resolve().parent.parent / "everyfork"
NAME = PACKAGE.name

OWN_NAMES = set("""len range enumerate zip min max sum abs sorted reversed int str bool list tuple dict set frozenset
    isinstance ord repr any all divmod Exception ValueError TypeError KeyError IndexError LookupError ZeroDivisionError
    ArithmeticError OverflowError RuntimeError NotImplementedError AttributeError StopIteration""".split())
METHODS = set("""append clear copy count endswith extend find get index insert isalnum isalpha isdigit islower isspace
    isupper items join keys ljust lower lstrip partition pop remove replace reverse rfind rjust rpartition rsplit rstrip
    setdefault split splitlines startswith strip update upper values zfill bit_length""".split())
CHANGES = set("append clear extend insert pop remove reverse setdefault update".split())
SPECIAL = {"__init__", "__eq__", "__repr__", "__str__", "__len__"}
STATEMENTS = (
    ast.Assign, ast.AugAssign, ast.If, ast.While, ast.For, ast.Return, ast.Break, ast.Continue, ast.Pass, ast.Raise,
    ast.Try, ast.Expr, ast.FunctionDef, ast.ClassDef, ast.ImportFrom)
EXPRESSIONS = (
    ast.Constant, ast.List, ast.Tuple, ast.Dict, ast.Set, ast.BinOp, ast.UnaryOp, ast.BoolOp, ast.Compare, ast.IfExp,
    ast.Call, ast.Attribute, ast.Subscript, ast.Slice, ast.ListComp, ast.JoinedStr, ast.FormattedValue, ast.Name,
    ast.Lambda)
WALKED = {"zip", "enumerate", "reversed", "range"}
NOWHERE = set("""register mro elements open input version_info with_traceback add_note format format_map f_back tb_next
    co_names f_code f_locals f_globals tb_frame gi_frame co_code""".split())
NO_NAMES = set("""attrgetter breakpoint builtins compile copyright credits delattr dir eval exec exit gc getattr globals
    hasattr help id importlib license locals methodcaller os quit setattr super type vars sys __name__ chr""".split())
NO_WORDS = set("""type typing typing_extensions enum Enum IntEnum StrEnum Flag IntFlag Generic Protocol ABC ABCMeta
    namedtuple NamedTuple TypedDict TYPE_CHECKING abstractmethod""".split())
NO_FILES = {"test", "tests", "testing", "site", "conftest", "sitecustomize", "usercustomize"} | NO_WORDS


def bound_names(tree):
    """All parameters and locals of the defs in a tree."""
    for node in ast.walk(tree):
        if isinstance(node, ast.arg):
            yield node.arg, node
        elif isinstance(node, ast.Name) and isinstance(node.ctx, ast.Store):
            yield node.id, node
        elif isinstance(node, ast.ExceptHandler) and node.name:
            yield node.name, node


class Language(unittest.TestCase):
    @classmethod
    def setUpClass(cls):
        cls.files = sorted(PACKAGE.glob("*.py"))
        cls.texts = {path.stem: path.read_text(encoding="utf-8") for path in cls.files}
        cls.trees = {name: ast.parse(text) for name, text in cls.texts.items()}

    def each(self, *kinds):
        for name, tree in self.trees.items():
            for node in ast.walk(tree):
                if isinstance(node, kinds):
                    yield f"{name}.py:{getattr(node, 'lineno', 0)}", node

    def parents(self, tree):
        return {child: node for node in ast.walk(tree) for child in ast.iter_child_nodes(node)}

    def test_files(self):
        self.assertIn("__init__", self.texts)
        for path in PACKAGE.iterdir():
            if path.name != "__pycache__":
                self.assertIn(path, self.files, "L1")
        for name in self.texts:
            self.assertTrue(name == "__init__" or re.fullmatch(r"[a-z][a-z0-9_]*", name), "L1, L14")
            self.assertFalse(name in NO_FILES or name.startswith("test_") or name in dir(builtins), "L14")

    def test_signs_and_size(self):
        for name, text in self.texts.items():
            self.assertTrue(all(" " <= sign <= "~" or sign == "\n" for sign in text), f"L14 {name}")
            rows = text.split("\n")
            self.assertLessEqual(len(rows), 400, f"L10 {name}")
            self.assertTrue(all(len(row) <= 120 for row in rows), f"L10 {name}")
            words = re.findall(r"\w+", text)
            self.assertFalse(NO_WORDS & set(words), f"L17 {name}")
            self.assertFalse([w for w in words if re.search("dataclass|overload|contextmanager", w)], f"L17 {name}")
        for where, node in self.each(ast.FunctionDef):
            self.assertLessEqual(node.end_lineno - node.lineno + 1, 40, f"L10 {where}")

    def test_imports(self):
        draws = {}
        for name, tree in self.trees.items():
            draws[name] = set()
            for node in ast.walk(tree):
                self.assertNotIsInstance(node, ast.Import, f"L16 {name}")
                if isinstance(node, ast.ImportFrom):
                    self.assertIn(node, tree.body, f"L2 {name}")
                    self.assertEqual(node.level, 0, f"L2 {name}")
                    self.assertTrue(node.module.startswith(NAME + "."), f"L2 {name}")
                    other = node.module[len(NAME) + 1:]
                    draws[name].add(other)
                    own = [x.name for x in self.trees[other].body if isinstance(x, (ast.FunctionDef, ast.ClassDef))]
                    own += [x.targets[0].id for x in self.trees[other].body if isinstance(x, ast.Assign)]
                    for one in node.names:
                        self.assertIsNone(one.asname, f"L2 {name}")
                        self.assertIn(one.name, own, f"L16 {name}")
                        used = [x for x in ast.walk(tree) if isinstance(x, ast.Name) and x.id == one.name]
                        self.assertTrue(used, f"{name} imports {one.name} for nothing")
        left = dict(draws)
        while left:
            free = [name for name in left if not left[name] & set(left)]
            self.assertTrue(free, f"L16 round: {left}")
            for name in free:
                left.pop(name)

    def test_top_of_a_file(self):
        for name, tree in self.trees.items():
            self.assertIsNotNone(ast.get_docstring(tree), f"L3 {name}")
            bound = []
            for node in tree.body[1:]:
                self.assertIsInstance(node, (ast.ImportFrom, ast.FunctionDef, ast.ClassDef, ast.Assign), f"L3 {name}")
                if isinstance(node, ast.Assign):
                    self.assertIsInstance(node.targets[0], ast.Name, f"L3 {name}")
                    bound.append(node.targets[0].id)
                    for inner in ast.walk(node.value):
                        self.assertIsInstance(inner, (ast.Constant, ast.List, ast.Tuple, ast.Dict, ast.Name, ast.UnaryOp,
                                                      ast.USub, ast.Load), f"L3 {name}")
                        if inner is not node.value:
                            self.assertNotIsInstance(inner, (ast.List, ast.Dict), f"L15 {name}")
                elif isinstance(node, ast.ImportFrom):
                    bound.extend(one.name for one in node.names)
                else:
                    bound.append(node.name)
            self.assertEqual(len(bound), len(set(bound)), f"L15 {name}")

    def test_defs(self):
        for where, node in self.each(ast.FunctionDef, ast.Lambda):
            given = node.args
            self.assertFalse(given.vararg or given.kwarg or given.kwonlyargs or given.posonlyargs, f"L4 {where}")
            self.assertFalse([x for x in given.args if x.annotation], f"L21 {where}")
        for where, node in self.each(ast.FunctionDef, ast.ClassDef):
            self.assertFalse(node.decorator_list, f"L4, L5 {where}")
            self.assertIsNotNone(ast.get_docstring(node) or node.name in SPECIAL or None, f"{where} says nothing")

    def test_classes(self):
        tops = [node for tree in self.trees.values() for node in tree.body]
        methods, kept = set(), set()
        for where, node in self.each(ast.ClassDef):
            self.assertIn(node, tops, f"L15 {where}")
            self.assertLessEqual(len(node.bases), 1, f"L5 {where}")
            for inner in node.body[1:]:
                self.assertIsInstance(inner, ast.FunctionDef, f"L5 {where}")
            names = [inner.name for inner in node.body[1:]]
            self.assertEqual(len(names), len(set(names)), f"L18 {where}")
            methods.update(names)
        for where, node in self.each(ast.Attribute):
            if isinstance(node.ctx, ast.Store):
                self.assertIsInstance(node.value, ast.Name, f"L18 {where}")
                kept.add(node.attr)
        self.assertFalse(methods & kept, "L18")
        python = set()
        for kind in (str, int, list, dict, set, bytes, tuple):
            python.update(dir(kind))
        self.assertFalse((kept | methods) & python - SPECIAL, "L26")

    def test_statements_and_expressions(self):
        for where, node in self.each(ast.stmt):
            self.assertIsInstance(node, STATEMENTS, f"L6 {where}")
            if isinstance(node, ast.Assign):
                self.assertEqual(len(node.targets), 1, f"L6 {where}")
                self.assertNotIsInstance(node.targets[0], (ast.Tuple, ast.List), f"L6 {where}")
            if isinstance(node, (ast.For, ast.While)):
                self.assertFalse(node.orelse, f"L6 {where}")
            if isinstance(node, ast.Try):
                self.assertFalse(node.finalbody, f"L6 {where}")
            if isinstance(node, ast.Expr):
                self.assertTrue(isinstance(node.value, ast.Call) or isinstance(node.value, ast.Constant), f"L6 {where}")
        for where, node in self.each(ast.expr):
            self.assertIsInstance(node, EXPRESSIONS, f"L7 {where}")
            if isinstance(node, ast.Constant):
                self.assertNotIsInstance(node.value, (float, bytes, complex), f"L7 {where}")
                self.assertFalse(isinstance(node.value, str) and "%" in node.value, f"L27 {where}")
            if isinstance(node, ast.ListComp):
                self.assertEqual(len(node.generators), 1, f"L7 {where}")
                self.assertLessEqual(len(node.generators[0].ifs), 1, f"L7 {where}")
            if isinstance(node, ast.FormattedValue):
                self.assertIsInstance(node.value, ast.Name, f"L7 {where}")
                self.assertIsNone(node.format_spec, f"L7 {where}")
            if isinstance(node, ast.BinOp):
                self.assertNotIsInstance(node.op, (ast.Div, ast.MatMult), f"L7 {where}")
                if isinstance(node.op, ast.Pow):
                    self.assertTrue(isinstance(node.right, ast.Constant) and 0 <= node.right.value <= 64, f"L27 {where}")
            if isinstance(node, ast.Compare):
                for op, right in zip(node.ops, node.comparators):
                    if isinstance(op, (ast.Is, ast.IsNot)):
                        self.assertTrue(isinstance(right, ast.Constant) and right.value in (None, True, False), f"L20 {where}")

    def test_names(self):
        for name, tree in self.trees.items():
            known = set(OWN_NAMES)
            for node in ast.walk(tree):
                if isinstance(node, (ast.FunctionDef, ast.ClassDef)):
                    known.add(node.name)
                elif isinstance(node, ast.alias):
                    known.add(node.name)
            known.update(one for one, _ in bound_names(tree))
            for node in ast.walk(tree):
                if isinstance(node, ast.Name):
                    self.assertIn(node.id, known, f"L8 {name}:{node.lineno}")
                    self.assertNotIn(node.id, NO_NAMES | NOWHERE, f"L17 {name}:{node.lineno}")
                    self.assertRegex(node.id, r"^[A-Za-z]\w*$", f"L12 {name}:{node.lineno}")
                elif isinstance(node, ast.Attribute):
                    self.assertNotIn(node.attr, NOWHERE, f"L17 {name}:{node.lineno}")
                    self.assertTrue(node.attr in SPECIAL or not node.attr.startswith("_"), f"L12 {name}:{node.lineno}")
                elif isinstance(node, (ast.FunctionDef, ast.ClassDef)):
                    self.assertTrue(node.name in SPECIAL or not node.name.startswith("_"), f"L12 {name}:{node.lineno}")
                    self.assertNotIn(node.name, NO_NAMES | NOWHERE | set(dir(builtins)), f"L17 {name}:{node.lineno}")

    def test_what_locals_are_called(self):
        for name, tree in self.trees.items():
            taken = set(dir(builtins))
            for node in tree.body:
                if isinstance(node, ast.ImportFrom):
                    taken.update(one.name for one in node.names)
                elif isinstance(node, (ast.ClassDef, ast.FunctionDef)):
                    taken.add(node.name)
            for one, node in bound_names(tree):
                self.assertNotIn(one, taken, f"L15 {name}:{getattr(node, 'lineno', 0)}")

    def test_methods(self):
        own = {inner.name for _, node in self.each(ast.ClassDef) for inner in node.body if isinstance(inner, ast.FunctionDef)}
        for where, node in self.each(ast.Call):
            if isinstance(node.func, ast.Attribute):
                self.assertIn(node.func.attr, METHODS | own | SPECIAL, f"L25 {where}")
            if isinstance(node.func, ast.Name) and node.func.id == "isinstance":
                kinds = node.args[1].elts if isinstance(node.args[1], ast.Tuple) else [node.args[1]]
                self.assertTrue({kind.id for kind in kinds} <= {"int", "str", "bool", "list", "tuple", "dict"}, f"L22 {where}")
            for keyword in node.keywords:
                self.assertIn((node.func.id, keyword.arg), {
                    ("sorted", "key"), ("sorted", "reverse"), ("min", "key"), ("max", "key"), ("min", "default"),
                    ("max", "default"), ("sum", "start"), ("enumerate", "start"), ("zip", "strict")}, f"L22 {where}")

    def test_walks(self):
        for name, tree in self.trees.items():
            parents = self.parents(tree)
            for node in ast.walk(tree):
                if not isinstance(node, ast.Call):
                    continue
                called = node.func.id if isinstance(node.func, ast.Name) else node.func.attr
                above = parents[node]
                where = f"{name}.py:{node.lineno}"
                if called in WALKED or (isinstance(node.func, ast.Attribute) and called in ("items", "keys", "values")):
                    walked = isinstance(above, (ast.For, ast.comprehension)) and above.iter is node
                    inside = isinstance(above, ast.Call) and isinstance(above.func, ast.Name) and above.func.id in (
                        "list", "tuple", "dict", "sorted", "sum", "any", "all", "enumerate", "zip", "min", "max")
                    self.assertTrue(walked or inside, f"L23 {where}")
                if called in ("set", "frozenset"):
                    inside = isinstance(above, ast.Call) and isinstance(above.func, ast.Name)
                    fine = isinstance(above, (ast.Compare, ast.BinOp)) or (inside and above.func.id in ("len", "sorted"))
                    self.assertTrue(fine, f"L24 {where}")

    def test_walked_things_stay(self):
        for where, loop in self.each(ast.For):
            walked = {ast.unparse(node) for node in ast.walk(loop.iter) if isinstance(node, (ast.Name, ast.Attribute))}
            for node in ast.walk(ast.Module(body=loop.body, type_ignores=[])):
                if isinstance(node, ast.Call) and isinstance(node.func, ast.Attribute) and node.func.attr in CHANGES:
                    self.assertNotIn(ast.unparse(node.func.value), walked, f"L23 {where}")
                if isinstance(node, ast.Subscript) and isinstance(node.ctx, ast.Store):
                    self.assertNotIn(ast.unparse(node.value), walked, f"L23 {where}")

    def test_tops_are_only_read(self):
        kept = {}
        for name, tree in self.trees.items():
            for node in tree.body:
                if isinstance(node, ast.Assign) and isinstance(node.value, (ast.List, ast.Dict)):
                    kept[node.targets[0].id] = name
        for name, tree in self.trees.items():
            parents = self.parents(tree)
            for node in ast.walk(tree):
                if isinstance(node, ast.Name) and node.id in kept and isinstance(node.ctx, ast.Load):
                    above = parents[node]
                    where = f"{name}.py:{node.lineno}"
                    fine = isinstance(above, (ast.Compare, ast.For, ast.comprehension))
                    fine = fine or (isinstance(above, ast.Subscript) and isinstance(above.ctx, ast.Load))
                    fine = fine or (isinstance(above, ast.Attribute) and above.attr in ("get", "items", "keys", "values"))
                    fine = fine or (isinstance(above, ast.Call) and above.func.id in ("len", "list", "dict", "sorted", "tuple"))
                    self.assertTrue(fine, f"L15 {where}")

    def test_errors(self):
        for where, node in self.each(ast.ExceptHandler):
            self.assertIsNotNone(node.type, f"L6 {where}")
            names = node.type.elts if isinstance(node.type, ast.Tuple) else [node.type]
            for one in names:
                self.assertNotIn(one.id, ("Exception", "TypeError", "ValueError", "LookupError", "IndexError"), f"L19 {where}")
        for where, node in self.each(ast.Raise):
            self.assertIsInstance(node.exc, ast.Call, f"L19 {where}")

    def test_escapes(self):
        for name, text in self.texts.items():
            for escape in re.findall(r"\\(.)", text):
                self.assertIn(escape, "nt\\\"'", f"L27 {name}")


if __name__ == "__main__":
    unittest.main()
