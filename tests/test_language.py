"""Holds the package's files against those rules of LANGUAGE.md that a look at the tree of the code can see."""

import ast
import builtins
import pathlib
import re
import unittest

PACKAGE = pathlib.Path(__file__).resolve().parent.parent / "standtogether"

OWN_NAMES = (
    "len range enumerate zip min max sum abs sorted reversed int str bool list tuple dict set frozenset isinstance "
    "ord repr any all divmod Exception ValueError TypeError KeyError IndexError LookupError ZeroDivisionError "
    "ArithmeticError OverflowError RuntimeError NotImplementedError AttributeError StopIteration"
).split()
METHODS = (
    "append clear copy count endswith extend find get index insert isalnum isalpha isdigit islower isspace isupper "
    "items join keys ljust lower lstrip partition pop remove replace reverse rfind rjust rpartition rsplit rstrip "
    "setdefault split splitlines startswith strip update upper values zfill bit_length"
).split()
SPECIAL = ["__init__", "__eq__", "__repr__", "__str__", "__len__"]
NODES = (
    "Module FunctionDef arguments arg ClassDef Return Assign AugAssign For While If Raise Try ExceptHandler Pass Break "
    "Continue Expr ImportFrom alias Constant Name Load Store Attribute Subscript Slice Call keyword List Tuple Dict "
    "Set ListComp comprehension BinOp BoolOp UnaryOp Compare IfExp Lambda JoinedStr FormattedValue Add Sub Mult "
    "FloorDiv Mod Pow BitAnd BitOr BitXor LShift RShift Invert Not USub UAdd And Or Eq NotEq Lt LtE Gt GtE Is IsNot "
    "In NotIn"
).split()
BARRED_WORDS = re.compile(
    r"\b(type|typing|typing_extensions|enum|Enum|IntEnum|StrEnum|Flag|IntFlag|Generic|Protocol|ABC|ABCMeta|namedtuple"
    r"|NamedTuple|TypedDict|TYPE_CHECKING|abstractmethod)\b|dataclass|overload|contextmanager")


def package_files():
    return sorted(path for path in PACKAGE.rglob("*") if path.is_file() and "__pycache__" not in path.parts)


def own_methods():
    return {
        part.name
        for path in package_files() for node in ast.walk(ast.parse(path.read_text()))
        if isinstance(node, ast.ClassDef) for part in node.body if isinstance(part, ast.FunctionDef)
    }


def bound_names(tree):
    for node in ast.walk(tree):
        if isinstance(node, (ast.FunctionDef, ast.ClassDef)):
            yield node.name
        elif isinstance(node, ast.arg):
            yield node.arg
        elif isinstance(node, ast.Name) and isinstance(node.ctx, ast.Store):
            yield node.id
        elif isinstance(node, ast.alias):
            yield node.asname or node.name
        elif isinstance(node, ast.ExceptHandler) and node.name:
            yield node.name


class LanguageTest(unittest.TestCase):
    def each_file(self):
        for path in package_files():
            text = path.read_text(encoding="utf-8")
            yield path.name, text, ast.parse(text)

    def test_files(self):
        self.assertTrue((PACKAGE / "__init__.py").is_file())
        for path in package_files():
            self.assertRegex(path.name, r"\A[a-z0-9_]+\.py\Z")
            self.assertNotIn(path.stem, dir(builtins))

    def test_signs_and_sizes(self):
        for name, text, tree in self.each_file():
            self.assertRegex(text, r"\A[\n -~]*\Z", name)
            self.assertIsNone(BARRED_WORDS.search(text), name)
            lines = text.split("\n")
            self.assertLessEqual(len(lines), 401, name)
            self.assertLessEqual(max(len(line) for line in lines), 120, name)
            for node in ast.walk(tree):
                if isinstance(node, ast.FunctionDef):
                    self.assertLessEqual(node.end_lineno - node.lineno + 1, 40, (name, node.name))

    def test_forms(self):
        for name, _, tree in self.each_file():
            for node in ast.walk(tree):
                self.assertIn(node.__class__.__name__, NODES, (name, getattr(node, "lineno", None)))
                if isinstance(node, (ast.FunctionDef, ast.ClassDef)):
                    self.assertEqual(node.decorator_list, [], name)
                if isinstance(node, ast.arguments):
                    others = (node.vararg, node.kwarg, node.kwonlyargs, node.posonlyargs)
                    self.assertEqual(others, (None, None, [], []), name)
                if isinstance(node, ast.Assign):
                    self.assertEqual(len(node.targets), 1, (name, node.lineno))
                if isinstance(node, (ast.For, ast.While)):
                    self.assertEqual(node.orelse, [], (name, node.lineno))
                if isinstance(node, ast.Try):
                    self.assertEqual(node.finalbody, [], (name, node.lineno))
                if isinstance(node, ast.ListComp):
                    self.assertEqual(len(node.generators), 1, (name, node.lineno))
                    self.assertLessEqual(len(node.generators[0].ifs), 1, (name, node.lineno))
                if isinstance(node, ast.Constant):
                    self.assertNotIsInstance(node.value, (float, complex, bytes), name)

    def test_is_stands_beside_none_and_truths_alone(self):
        for name, _, tree in self.each_file():
            for node in ast.walk(tree):
                if isinstance(node, ast.Compare) and isinstance(node.ops[0], (ast.Is, ast.IsNot)):
                    sides = [node.left] + node.comparators
                    self.assertTrue(
                        any(isinstance(side, ast.Constant) and side.value in (None, True, False) for side in sides),
                        (name, node.lineno))

    def test_names(self):
        barred = set(dir(builtins)) - set(OWN_NAMES) | {"chr"}
        for name, _, tree in self.each_file():
            for bound in bound_names(tree):
                if bound not in SPECIAL:
                    self.assertRegex(bound, r"\A[A-Za-z][A-Za-z0-9_]*\Z", name)
                    self.assertNotIn(bound, dir(builtins), name)
            for node in ast.walk(tree):
                if isinstance(node, ast.Name):
                    self.assertNotIn(node.id, barred, (name, node.lineno))

    def test_no_local_is_called_like_a_class_or_an_import_of_its_file(self):
        for name, _, tree in self.each_file():
            taken = {alias.name for node in tree.body if isinstance(node, ast.ImportFrom) for alias in node.names}
            taken |= {node.name for node in tree.body if isinstance(node, ast.ClassDef)}
            for node in ast.walk(tree):
                bound = node.arg if isinstance(node, ast.arg) else node.id if isinstance(node, ast.Name) else None
                if isinstance(node, ast.arg) or isinstance(getattr(node, "ctx", None), ast.Store):
                    self.assertNotIn(bound, taken, (name, node.lineno))

    def test_what_is_walked_is_walked_at_once(self):
        walked = ("zip", "enumerate", "reversed", "range")
        takers = ("list", "tuple", "dict", "sorted", "sum", "any", "all", "enumerate", "zip", "min", "max")
        for name, _, tree in self.each_file():
            good = []
            for node in ast.walk(tree):
                if isinstance(node, (ast.For, ast.comprehension)):
                    good.append(node.iter)
                elif isinstance(node, ast.Call) and isinstance(node.func, ast.Name) and node.func.id in takers:
                    good.extend(node.args if node.func.id == "zip" else node.args[:1])
            for node in ast.walk(tree):
                if isinstance(node, ast.Call) and isinstance(node.func, ast.Name) and node.func.id in walked:
                    self.assertIn(node, good, (name, node.lineno))

    def test_sets_are_not_kept(self):
        for name, _, tree in self.each_file():
            good = []
            for node in ast.walk(tree):
                if isinstance(node, ast.Call) and isinstance(node.func, ast.Name) and node.func.id in ("sorted", "len"):
                    good.extend(node.args if not node.keywords else [])
                elif isinstance(node, ast.Compare) and isinstance(node.ops[0], (ast.Eq, ast.NotEq, ast.In, ast.NotIn)):
                    good.extend([node.left] + node.comparators)
            for node in ast.walk(tree):
                called = node.func.id if isinstance(node, ast.Call) and isinstance(node.func, ast.Name) else ""
                if isinstance(node, ast.Set) or called in ("set", "frozenset"):
                    self.assertIn(node, good, (name, node.lineno))

    def test_texts_and_f_strings(self):
        for name, _, tree in self.each_file():
            for node in ast.walk(tree):
                if isinstance(node, ast.FormattedValue):
                    self.assertIsInstance(node.value, ast.Name, (name, node.lineno))
                    self.assertIsNone(node.format_spec, (name, node.lineno))
                elif isinstance(node, ast.Constant) and isinstance(node.value, str):
                    self.assertNotIn("%", node.value, (name, node.lineno))

    def test_classes_have_methods_alone(self):
        for name, _, tree in self.each_file():
            for node in ast.walk(tree):
                if isinstance(node, ast.ClassDef):
                    self.assertIn(node, tree.body, (name, node.name))
                    self.assertLessEqual(len(node.bases), 1, (name, node.name))
                    for part in node.body:
                        self.assertIsInstance(part, (ast.FunctionDef, ast.Pass), (name, node.name))

    def test_keywords_of_pythons_own(self):
        allowed = {
            "sorted": ["key", "reverse"], "min": ["key", "default"], "max": ["key", "default"], "sum": ["start"],
            "enumerate": ["start"], "zip": ["strict"],
        }
        for name, _, tree in self.each_file():
            for node in ast.walk(tree):
                if isinstance(node, ast.Call) and node.keywords:
                    called = node.func.id if isinstance(node.func, ast.Name) else None
                    for keyword in node.keywords:
                        self.assertIn(keyword.arg, allowed.get(called, []), (name, node.lineno))

    def test_the_top_of_a_file_is_bound_once_and_plain(self):
        for name, _, tree in self.each_file():
            bound = []
            for node in tree.body:
                if isinstance(node, (ast.FunctionDef, ast.ClassDef)):
                    bound.append(node.name)
                elif isinstance(node, ast.ImportFrom):
                    bound.extend(alias.asname or alias.name for alias in node.names)
                elif isinstance(node, ast.Assign):
                    bound.append(node.targets[0].id)
                    ast.literal_eval(node.value)
                else:
                    self.assertIs(node, tree.body[0], (name, node.lineno))
                    self.assertIsInstance(node.value, ast.Constant, name)
            self.assertEqual(sorted(set(bound)), sorted(bound), name)

    def test_methods(self):
        allowed = set(METHODS) | own_methods()
        for name, _, tree in self.each_file():
            for node in ast.walk(tree):
                if isinstance(node, ast.Call) and isinstance(node.func, ast.Attribute):
                    self.assertIn(node.func.attr, allowed, (name, node.lineno))

    def test_imports_stand_at_the_top_and_draw_from_the_defining_file(self):
        for name, _, tree in self.each_file():
            top = [node for node in tree.body if isinstance(node, ast.ImportFrom)]
            self.assertEqual(len(top), sum(isinstance(node, ast.ImportFrom) for node in ast.walk(tree)), name)
            for node in top:
                self.assertEqual(node.level, 0, name)
                self.assertTrue(node.module.startswith("standtogether."), name)
                source = ast.parse((PACKAGE / (node.module.split(".", 1)[1] + ".py")).read_text())
                defined = set()
                for part in source.body:
                    if isinstance(part, (ast.FunctionDef, ast.ClassDef)):
                        defined.add(part.name)
                    elif isinstance(part, ast.Assign):
                        defined.add(part.targets[0].id)
                for alias in node.names:
                    self.assertIn(alias.name, defined, name)

    def test_no_two_files_draw_from_one_another(self):
        draws = {
            path.stem: [
                node.module.split(".")[1] for node in ast.parse(path.read_text()).body
                if isinstance(node, ast.ImportFrom)
            ]
            for path in package_files()
        }
        while draws:
            free = [stem for stem in draws if not any(other in draws for other in draws[stem])]
            self.assertTrue(free, f"a ring among {sorted(draws)}")
            for stem in free:
                del draws[stem]


if __name__ == "__main__":
    unittest.main()
