"""The form of the code: the rules of ../shared/LANGUAGE.md that are plain to look up."""

import ast
import builtins
import pathlib
import re
import unittest

FOLDER = pathlib.Path(__file__).resolve().parent.parent / "tiechances"

# L6, L7, L11: what the language leaves out.
BARRED = (
    ast.With, ast.Match, ast.Global, ast.Nonlocal, ast.Yield, ast.YieldFrom,
    ast.AsyncFunctionDef, ast.AsyncFor, ast.AsyncWith, ast.Await, ast.Import,
    ast.GeneratorExp, ast.NamedExpr, ast.Div, ast.MatMult,
)

# L8, less chr (L27) and print (__main__.py only).
BUILTINS = set(
    "len range enumerate zip min max sum abs sorted reversed int str bool bytes"
    " list tuple dict set frozenset isinstance ord repr any all divmod"
    " Exception ValueError TypeError KeyError IndexError LookupError"
    " ZeroDivisionError ArithmeticError OverflowError RuntimeError"
    " NotImplementedError AttributeError StopIteration".split()
)

# L17: words that stand nowhere in a file.
WORDS = re.compile(
    r"\b(type|typing|typing_extensions|enum|Enum|IntEnum|StrEnum|Flag|IntFlag|Generic"
    r"|Protocol|ABC|ABCMeta|namedtuple|NamedTuple|TypedDict|TYPE_CHECKING|abstractmethod"
    r"|register|mro|elements|open|input)\b|dataclass|overload|contextmanager"
)


def sources():
    return [(path, path.read_text("ascii")) for path in sorted(FOLDER.glob("*.py"))]


def trees():
    return [(path.name, ast.parse(text)) for path, text in sources()]


def nodes(kind):
    return [(name, node) for name, tree in trees() for node in ast.walk(tree)
            if isinstance(node, kind)]


def bound_names(tree):
    """Names of functions, classes, parameters, variables and imports."""
    found = []
    for node in ast.walk(tree):
        if isinstance(node, (ast.FunctionDef, ast.ClassDef)):
            found.append(node.name)
        elif isinstance(node, ast.arg):
            found.append(node.arg)
        elif isinstance(node, ast.Name) and isinstance(node.ctx, ast.Store):
            found.append(node.id)
        elif isinstance(node, ast.alias):
            found.append(node.asname or node.name)
    return found


def defined_names(tree):
    """Names of the functions and classes of a file."""
    return [node.name for node in tree.body if isinstance(node, (ast.FunctionDef, ast.ClassDef))]


class Form(unittest.TestCase):
    def test_the_folder_holds_python_files_only(self):
        found = [path for path in FOLDER.iterdir() if path.name != "__pycache__"]
        self.assertIn(FOLDER / "__init__.py", found)
        for path in found:
            self.assertTrue(path.is_file() and re.fullmatch(r"[a-z0-9_]+\.py", path.name), path)

    def test_characters_and_lines(self):
        for path, text in sources():
            self.assertRegex(text, r"\A[ -~\n]*\Z", path)
            lines = text.splitlines()
            self.assertLessEqual(len(lines), 400, path)
            self.assertLessEqual(max(len(line) for line in lines), 120, path)

    def test_functions_have_at_most_forty_lines(self):
        for name, node in nodes(ast.FunctionDef):
            self.assertLessEqual(node.end_lineno - node.lineno + 1, 40, (name, node.name))

    def test_functions_and_classes_are_plain(self):
        for name, node in nodes((ast.FunctionDef, ast.ClassDef)):
            self.assertEqual(node.decorator_list, [], (name, node.name))
        for name, node in nodes(ast.arguments):
            self.assertIsNone(node.vararg or node.kwarg, name)
            self.assertEqual(node.posonlyargs, [], name)

    def test_nothing_barred_is_written(self):
        for name, node in nodes(BARRED):
            self.fail((name, node))
        for name, node in nodes((ast.For, ast.While)):
            self.assertEqual(node.orelse, [], name)
        for name, node in nodes(ast.Constant):
            self.assertNotIsInstance(node.value, (float, complex), name)

    def test_imports_are_of_the_package(self):
        for name, node in nodes(ast.ImportFrom):
            self.assertRegex(node.module, r"\Atiechances\.[a-z0-9_]+\Z", name)
            self.assertEqual(node.level, 0, name)

    def test_is_stands_with_none_and_truths_only(self):
        for name, node in nodes(ast.Compare):
            for sign, side in zip(node.ops, node.comparators):
                if isinstance(sign, (ast.Is, ast.IsNot)):
                    self.assertTrue(isinstance(side, ast.Constant)
                                    and side.value in (None, True, False), name)

    def test_names_are_plain_and_no_builtin_has_another_meaning(self):
        for name, tree in trees():
            for bound in bound_names(tree):
                self.assertRegex(bound, r"\A([A-Za-z][A-Za-z0-9_]*|__[a-z]+__)\Z", name)
                self.assertFalse(hasattr(builtins, bound), (name, bound))

    def test_no_function_class_or_import_is_bound_again(self):
        for name, tree in trees():
            taken = defined_names(tree)
            for node in tree.body:
                if isinstance(node, ast.ImportFrom):
                    taken.extend(alias.asname or alias.name for alias in node.names)
            bound = bound_names(tree)
            for one in taken:
                self.assertEqual(bound.count(one), 1, (name, one))

    def test_every_import_names_the_file_that_defines_it(self):
        defined = {name[:-3]: defined_names(tree) for name, tree in trees()}
        for name, node in nodes(ast.ImportFrom):
            for alias in node.names:
                self.assertIn(alias.name, defined[node.module.split(".")[1]], name)

    def test_no_file_imports_itself_through_others(self):
        ahead = {name: set() for name, tree in trees()}
        for name, node in nodes(ast.ImportFrom):
            ahead[name].add(node.module.split(".")[1] + ".py")
        while ahead:
            free = [name for name in ahead if not ahead[name] & set(ahead)]
            self.assertNotEqual(free, [], ahead)
            for name in free:
                del ahead[name]

    def test_no_set_is_gone_through(self):
        for name, node in nodes((ast.For, ast.comprehension)):
            self.assertNotIsInstance(node.iter, (ast.Set, ast.SetComp), name)

    def test_numbers_and_texts(self):
        for name, node in nodes(ast.BinOp):
            if isinstance(node.op, ast.Pow):
                self.assertTrue(isinstance(node.right, ast.Constant)
                                and 0 <= node.right.value <= 64, name)
        for name, node in nodes(ast.Constant):
            if isinstance(node.value, str):
                self.assertNotIn("%", node.value, name)

    def test_builtins_are_those_of_the_language(self):
        for name, node in nodes(ast.Name):
            if hasattr(builtins, node.id):
                self.assertIn(node.id, BUILTINS, name)

    def test_words_that_stand_nowhere(self):
        for path, text in sources():
            self.assertIsNone(WORDS.search(text), path)


if __name__ == "__main__":
    unittest.main()
