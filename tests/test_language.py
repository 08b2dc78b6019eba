"""The package keeps to the small part of Python that it is written in: what can be seen of that in its text."""

import ast
import builtins
import pathlib
import re
import unittest

PACKAGE = pathlib.Path(__file__).resolve().parent.parent / "hearsay"

BUILTINS = set("""len range enumerate zip min max sum abs sorted reversed int str bool list tuple dict set frozenset
    isinstance ord repr any all divmod Exception ValueError TypeError KeyError IndexError LookupError
    ZeroDivisionError ArithmeticError OverflowError RuntimeError NotImplementedError AttributeError
    StopIteration""".split())

METHODS = set("""append clear copy count endswith extend find get index insert isalnum isalpha isdigit islower isspace
    isupper items join keys ljust lower lstrip partition pop remove replace reverse rfind rjust rpartition rsplit
    rstrip setdefault split splitlines startswith strip update upper values zfill bit_length""".split())

WORDS = re.compile(r"\b(type|typing|typing_extensions|enum|Enum|IntEnum|StrEnum|Flag|IntFlag|Generic|Protocol|ABC|"
                   r"ABCMeta|namedtuple|NamedTuple|TypedDict|TYPE_CHECKING|abstractmethod)\b|"
                   r"dataclass|overload|contextmanager")

NODES = (ast.Module, ast.ImportFrom, ast.alias, ast.FunctionDef, ast.ClassDef, ast.arguments, ast.arg, ast.Assign,
         ast.AugAssign, ast.If, ast.While, ast.For, ast.Return, ast.Break, ast.Continue, ast.Pass, ast.Raise, ast.Try,
         ast.ExceptHandler, ast.Expr, ast.Constant, ast.List, ast.Tuple, ast.Dict, ast.Set, ast.BinOp, ast.UnaryOp,
         ast.BoolOp, ast.Compare, ast.IfExp, ast.Call, ast.keyword, ast.Attribute, ast.Subscript, ast.Slice,
         ast.ListComp, ast.comprehension, ast.JoinedStr, ast.FormattedValue, ast.Name, ast.Lambda,
         ast.operator, ast.unaryop, ast.boolop, ast.cmpop, ast.expr_context)


def files():
    return sorted(PACKAGE.glob("*.py"))


def nodes():
    for file in files():
        for node in ast.walk(ast.parse(file.read_text(encoding="utf-8"))):
            yield file.name, node


def own_methods():
    return {child.name for name, node in nodes() if isinstance(node, ast.ClassDef)
            for child in node.body if isinstance(child, ast.FunctionDef)}


def own_values():
    return {node.attr for name, node in nodes() if isinstance(node, ast.Attribute) and isinstance(node.ctx, ast.Store)}


def drawn_from(file):
    tree = ast.parse(file.read_text(encoding="utf-8"))
    return [(node.module.split(".")[1], [alias.name for alias in node.names]) for node in tree.body
            if isinstance(node, ast.ImportFrom)]


def bound_at_top(file):
    names = set()
    for node in ast.parse(file.read_text(encoding="utf-8")).body:
        if isinstance(node, (ast.FunctionDef, ast.ClassDef)):
            names.add(node.name)
        elif isinstance(node, ast.Assign):
            names.add(node.targets[0].id)
    return names


def called(node):
    """The name that a call calls."""
    return getattr(node.func, "id", getattr(node.func, "attr", None))


class Language(unittest.TestCase):
    def test_only_python_files(self):
        found = {file.name for file in PACKAGE.iterdir()} - {"__pycache__"}
        self.assertEqual({file.name for file in files()}, found)
        self.assertIn("__init__.py", found)

    def test_rows(self):
        for file in files():
            text = file.read_text(encoding="utf-8")
            self.assertRegex(text, r"\A[ -~\n]*\Z", file.name)
            self.assertIsNone(WORDS.search(text), file.name)
            self.assertLessEqual(len(text.splitlines()), 400, file.name)
            self.assertLessEqual(max(len(row) for row in text.splitlines()), 120, file.name)

    def test_kinds_of_statements_and_values(self):
        for name, node in nodes():
            self.assertIsInstance(node, NODES, name)
            self.assertNotIsInstance(node, (ast.Div, ast.MatMult), name)
            if isinstance(node, ast.Assign):
                self.assertEqual(1, len(node.targets), (name, node.lineno))
            if isinstance(node, (ast.For, ast.While)):
                self.assertEqual([], node.orelse, (name, node.lineno))
            if isinstance(node, ast.ListComp):
                self.assertEqual(1, len(node.generators), (name, node.lineno))
                self.assertLessEqual(len(node.generators[0].ifs), 1, (name, node.lineno))

    def test_functions(self):
        for name, node in nodes():
            if isinstance(node, ast.FunctionDef):
                self.assertLessEqual(node.end_lineno - node.lineno + 1, 40, (name, node.name))
                self.assertEqual([], node.decorator_list)
                self.assertEqual((None, None, []), (node.args.vararg, node.args.kwarg, node.args.kwonlyargs))

    def test_imports(self):
        for name, node in nodes():
            if isinstance(node, ast.ImportFrom):
                self.assertEqual(0, node.level, name)
                self.assertRegex(node.module, r"\Ahearsay\.[a-z_]+\Z")
                self.assertNotIn("*", [alias.name for alias in node.names])

    def test_each_name_is_drawn_from_where_it_is_defined(self):
        for file in files():
            for module, names in drawn_from(file):
                self.assertLessEqual(set(names), bound_at_top(PACKAGE / f"{module}.py"), file.name)

    def test_no_two_files_draw_from_one_another(self):
        left = {file.stem: {module for module, names in drawn_from(file)} for file in files()}
        while left:
            free = [stem for stem, modules in left.items() if not modules & set(left)]
            self.assertNotEqual([], free, left)
            left = {stem: modules for stem, modules in left.items() if stem not in free}

    def test_no_local_is_called_like_a_class_or_an_import(self):
        for file in files():
            tree = ast.parse(file.read_text(encoding="utf-8"))
            taken = {name for module, names in drawn_from(file) for name in names}
            taken |= {node.name for node in ast.walk(tree) if isinstance(node, ast.ClassDef)}
            for node in ast.walk(tree):
                if isinstance(node, ast.arg):
                    self.assertNotIn(node.arg, taken, (file.name, node.lineno))
                if isinstance(node, ast.Name) and isinstance(node.ctx, ast.Store):
                    self.assertNotIn(node.id, taken, (file.name, node.lineno))

    def test_values_of_objects(self):
        taken = {name for kind in (str, int, list, tuple, dict, set, bytes) for name in dir(kind)}
        free = set("count index title find get join lower upper split strip copy add".split())
        self.assertEqual(set(), own_values() & (taken - free))
        self.assertEqual(set(), own_values() & own_methods())

    def test_is_stands_beside_none_true_and_false(self):
        for name, node in nodes():
            if isinstance(node, ast.Compare):
                for kind, other in zip(node.ops, node.comparators):
                    if isinstance(kind, (ast.Is, ast.IsNot)):
                        self.assertIsInstance(other, ast.Constant, (name, node.lineno))
                        self.assertIn(other.value, (None, True, False), (name, node.lineno))

    def test_names_of_pythons_own(self):
        others = set(dir(builtins)) - BUILTINS
        for name, node in nodes():
            if isinstance(node, ast.Name):
                self.assertNotIn(node.id, others, (name, node.lineno))
                if isinstance(node.ctx, ast.Store):
                    self.assertNotIn(node.id, BUILTINS, (name, node.lineno))
            if isinstance(node, ast.arg):
                self.assertNotIn(node.arg, dir(builtins), (name, node.lineno))

    def test_methods(self):
        allowed = METHODS | own_methods()
        for name, node in nodes():
            if isinstance(node, ast.Call) and isinstance(node.func, ast.Attribute):
                self.assertIn(node.func.attr, allowed, (name, node.lineno))

    def test_walked_at_once(self):
        walks = set("zip enumerate reversed range items keys values".split())
        takers = set("list tuple dict sorted sum any all enumerate zip min max".split())
        for file in files():
            tree = ast.parse(file.read_text(encoding="utf-8"))
            at_once = {id(node.iter) for node in ast.walk(tree) if isinstance(node, (ast.For, ast.comprehension))}
            for node in ast.walk(tree):
                if isinstance(node, ast.Call) and called(node) in takers:
                    at_once |= {id(part) for part in node.args[:1]}
            for node in ast.walk(tree):
                if isinstance(node, ast.Call) and called(node) in walks:
                    self.assertIn(id(node), at_once, (file.name, node.lineno))

    def test_texts(self):
        for name, node in nodes():
            if isinstance(node, ast.Constant) and isinstance(node.value, str):
                self.assertNotIn("%", node.value, (name, node.lineno))
            if isinstance(node, ast.FormattedValue):
                self.assertIsInstance(node.value, ast.Name, (name, node.lineno))

    def test_errors_taken_are_the_programs_own(self):
        own = {node.name for name, node in nodes() if isinstance(node, ast.ClassDef)}
        for name, node in nodes():
            if isinstance(node, ast.ExceptHandler):
                self.assertIsInstance(node.type, ast.Name, (name, node.lineno))
                self.assertIn(node.type.id, own, (name, node.lineno))
            if isinstance(node, ast.Raise):
                self.assertIn(called(node.exc), own, (name, node.lineno))

    def test_the_top_of_a_file(self):
        for file in files():
            names = []
            for node in ast.parse(file.read_text(encoding="utf-8")).body:
                if isinstance(node, ast.Expr):
                    self.assertIsInstance(node.value, ast.Constant, (file.name, node.lineno))
                elif isinstance(node, ast.Assign):
                    names.append(node.targets[0].id)
                    ast.literal_eval(node.value)
                elif isinstance(node, (ast.FunctionDef, ast.ClassDef)):
                    names.append(node.name)
                else:
                    self.assertIsInstance(node, ast.ImportFrom, (file.name, node.lineno))
                    names += [alias.name for alias in node.names]
            self.assertEqual(len(names), len(set(names)), file.name)

    def test_plain_names(self):
        for name, node in nodes():
            for word in (getattr(node, "id", "a"), getattr(node, "arg", "a"), getattr(node, "attr", "a")):
                if word is not None and word != "__init__":
                    self.assertRegex(word, r"\A[A-Za-z][A-Za-z0-9_]*\Z", name)


if __name__ == "__main__":
    unittest.main()
