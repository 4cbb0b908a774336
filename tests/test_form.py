"""The form of the code: the rules of ../shared/LANGUAGE.md that are plain to look up."""

import ast
import builtins
import pathlib
import re
import unittest

FOLDER = pathlib.Path(__file__).resolve().parent.parent / "tiechances"

# L6, L7, L11: what the language leaves out.
BARRED = (
    ast.With, ast.Match, ast.Global, ast.Nonlocal, ast.Yield, ast.YieldFrom,
    ast.AsyncFunctionDef, ast.AsyncFor, ast.AsyncWith, ast.Await, ast.Import,
    ast.GeneratorExp, ast.NamedExpr, ast.Div, ast.MatMult,
)

# L8, less chr (L27) and print (__main__.py only).
BUILTINS = set(
    "len range enumerate zip min max sum abs sorted reversed int str bool bytes"
    " list tuple dict set frozenset isinstance ord repr any all divmod"
    " Exception ValueError TypeError KeyError IndexError LookupError"
    " ZeroDivisionError ArithmeticError OverflowError RuntimeError"
    " NotImplementedError AttributeError StopIteration".split()
)

# L17: words that stand nowhere in a file.
WORDS = re.compile(
    r"\b(type|typing|typing_extensions|enum|Enum|IntEnum|StrEnum|Flag|IntFlag|Generic"
    r"|Protocol|ABC|ABCMeta|namedtuple|NamedTuple|TypedDict|TYPE_CHECKING|abstractmethod"
    r"|register|mro|elements|open|input)\b|dataclass|overload|contextmanager"
)


# L25: the methods of builtin values that the package may call.
METHODS = set(
    "append clear copy count endswith extend find get index insert isalnum isalpha isdigit"
    " islower isspace isupper items join keys ljust lower lstrip partition pop remove replace"
    " reverse rfind rjust rpartition rsplit rstrip setdefault split splitlines startswith strip"
    " update upper values zfill bit_length".split()
)

# L17: names that are given to nothing.
NAMES = set(
    "attrgetter breakpoint builtins compile copyright credits delattr dir eval exec exit gc"
    " getattr globals hasattr help id importlib license locals methodcaller os quit setattr"
    " super type vars sys version_info with_traceback add_note".split()
)

# L23: what is gone through on the spot, and by what.
ROWS = ("zip", "enumerate", "reversed", "range", "items", "keys", "values")
TAKERS = ("list", "tuple", "dict", "sorted", "sum", "any", "all", "enumerate", "zip", "min", "max")


def sources():
    return [(path, path.read_text("ascii")) for path in sorted(FOLDER.glob("*.py"))]


def trees():
    return [(path.name, ast.parse(text)) for path, text in sources()]


def nodes(kind):
    return [(name, node) for name, tree in trees() for node in ast.walk(tree)
            if isinstance(node, kind)]


def called(node):
    """The name by which a function or a method is called, None where nothing is."""
    if not isinstance(node, ast.Call):
        return None
    return node.func.id if isinstance(node.func, ast.Name) else node.func.attr


def with_parents():
    """Tuples (file, node, the node it stands in)."""
    return [(name, child, node) for name, node in nodes(ast.AST)
            for child in ast.iter_child_nodes(node)]


def is_plain_value(node, above):
    """L3: whether the value is written out, of plain values and functions above."""
    if isinstance(node, ast.Dict):
        return all(is_plain_value(part, above) for part in node.keys + node.values)
    if isinstance(node, (ast.Tuple, ast.List)):
        return all(is_plain_value(part, above) for part in node.elts)
    return isinstance(node, ast.Constant) or isinstance(node, ast.Name) and node.id in above


def bound_names(tree):
    """Names of functions, classes, parameters, variables and imports."""
    found = []
    for node in ast.walk(tree):
        if isinstance(node, (ast.FunctionDef, ast.ClassDef)):
            found.append(node.name)
        elif isinstance(node, ast.arg):
            found.append(node.arg)
        elif isinstance(node, ast.Name) and isinstance(node.ctx, ast.Store):
            found.append(node.id)
        elif isinstance(node, ast.alias):
            found.append(node.asname or node.name)
    return found


def defined_names(tree):
    """Names of the functions, classes and values of a file."""
    found = [node.name for node in tree.body if isinstance(node, (ast.FunctionDef, ast.ClassDef))]
    return found + [target.id for node in tree.body if isinstance(node, ast.Assign)
                    for target in node.targets]


class Form(unittest.TestCase):
    def test_the_folder_holds_python_files_only(self):
        found = [path for path in FOLDER.iterdir() if path.name != "__pycache__"]
        self.assertIn(FOLDER / "__init__.py", found)
        for path in found:
            self.assertTrue(path.is_file() and re.fullmatch(r"[a-z0-9_]+\.py", path.name), path)

    def test_characters_and_lines(self):
        for path, text in sources():
            self.assertRegex(text, r"\A[ -~\n]*\Z", path)
            lines = text.splitlines()
            self.assertLessEqual(len(lines), 400, path)
            self.assertLessEqual(max(len(line) for line in lines), 120, path)

    def test_functions_have_at_most_forty_lines(self):
        for name, node in nodes(ast.FunctionDef):
            self.assertLessEqual(node.end_lineno - node.lineno + 1, 40, (name, node.name))

    def test_functions_and_classes_are_plain(self):
        for name, node in nodes((ast.FunctionDef, ast.ClassDef)):
            self.assertEqual(node.decorator_list, [], (name, node.name))
        for name, node in nodes(ast.arguments):
            self.assertIsNone(node.vararg or node.kwarg, name)
            self.assertEqual(node.posonlyargs, [], name)

    def test_nothing_barred_is_written(self):
        for name, node in nodes(BARRED):
            self.fail((name, node))
        for name, node in nodes((ast.For, ast.While)):
            self.assertEqual(node.orelse, [], name)
        for name, node in nodes(ast.Constant):
            self.assertNotIsInstance(node.value, (float, complex), name)

    def test_imports_are_of_the_package(self):
        for name, node in nodes(ast.ImportFrom):
            self.assertRegex(node.module, r"\Atiechances\.[a-z0-9_]+\Z", name)
            self.assertEqual(node.level, 0, name)

    def test_is_stands_with_none_and_truths_only(self):
        for name, node in nodes(ast.Compare):
            for sign, side in zip(node.ops, node.comparators):
                if isinstance(sign, (ast.Is, ast.IsNot)):
                    self.assertTrue(isinstance(side, ast.Constant)
                                    and side.value in (None, True, False), name)

    def test_names_are_plain_and_no_builtin_has_another_meaning(self):
        for name, tree in trees():
            for bound in bound_names(tree):
                self.assertRegex(bound, r"\A([A-Za-z][A-Za-z0-9_]*|__[a-z]+__)\Z", name)
                self.assertNotIn(bound, vars(builtins), name)

    def test_no_function_class_or_import_is_bound_again(self):
        for name, tree in trees():
            taken = defined_names(tree)
            for node in tree.body:
                if isinstance(node, ast.ImportFrom):
                    taken.extend(alias.asname or alias.name for alias in node.names)
            bound = bound_names(tree)
            for one in taken:
                self.assertEqual(bound.count(one), 1, (name, one))

    def test_every_import_names_the_file_that_defines_it(self):
        defined = {name[:-3]: defined_names(tree) for name, tree in trees()}
        for name, node in nodes(ast.ImportFrom):
            for alias in node.names:
                self.assertIn(alias.name, defined[node.module.split(".")[1]], name)

    def test_no_file_imports_itself_through_others(self):
        ahead = {name: set() for name, tree in trees()}
        for name, node in nodes(ast.ImportFrom):
            ahead[name].add(node.module.split(".")[1] + ".py")
        while ahead:
            free = [name for name in ahead if not ahead[name] & set(ahead)]
            self.assertNotEqual(free, [], ahead)
            for name in free:
                del ahead[name]

    def test_module_level(self):
        for name, tree in trees():
            above = []
            for at, node in enumerate(tree.body):
                if isinstance(node, (ast.FunctionDef, ast.ClassDef)):
                    above.append(node.name)
                elif isinstance(node, ast.Assign):
                    self.assertEqual(len(node.targets), 1, name)
                    self.assertTrue(is_plain_value(node.value, above), (name, node.lineno))
                    inner = list(ast.walk(node.value))[1:]
                    self.assertFalse([one for one in inner if isinstance(one, (ast.List, ast.Dict))])
                elif not isinstance(node, ast.ImportFrom):
                    self.assertEqual(at, 0, name)
                    self.assertIsInstance(node.value.value, str, name)

    def test_methods_and_attributes(self):
        methods = {node.name for _, kind in nodes(ast.ClassDef) for node in kind.body
                   if isinstance(node, ast.FunctionDef)}
        stored = {node.attr for _, node in nodes(ast.Attribute) if isinstance(node.ctx, ast.Store)}
        self.assertEqual(methods & stored, set())
        for name, node, parent in with_parents():
            if isinstance(node, ast.Attribute):
                is_called = isinstance(parent, ast.Call) and parent.func == node
                known = METHODS | methods if is_called else stored
                self.assertIn(node.attr, known, (name, node.lineno))

    def test_keywords_and_stars(self):
        for name, node in nodes((ast.keyword, ast.AnnAssign, ast.Lambda, ast.Try)):
            self.fail((name, node))
        for name, node, parent in with_parents():
            if isinstance(node, ast.Starred):
                self.assertIsInstance(parent, ast.Tuple, name)
                self.assertIsInstance(node.ctx, ast.Store, name)

    def test_rows_are_gone_through_on_the_spot(self):
        for name, node, parent in with_parents():
            if called(node) in ROWS:
                self.assertTrue(
                    isinstance(parent, (ast.For, ast.comprehension)) and parent.iter == node
                    or called(parent) in TAKERS, (name, node.lineno))

    def test_an_error_is_made_where_it_is_raised(self):
        refusals = {node.name for _, node in nodes(ast.ClassDef)} - {"Desk", "ChanceError"}
        for name, node in nodes(ast.Raise):
            self.assertIn(called(node.exc), refusals, (name, node.lineno))
            self.assertEqual([type(part.value) for part in node.exc.args], [str], name)

    def test_names_that_are_given_to_nothing(self):
        for name, tree in trees():
            self.assertEqual(NAMES & set(bound_names(tree)), set(), name)

    def test_sets_stand_in_len_only(self):
        for name, node, parent in with_parents():
            if isinstance(node, (ast.Set, ast.SetComp)) or called(node) in ("set", "frozenset"):
                self.assertEqual(called(parent), "len", (name, node.lineno))

    def test_no_set_is_gone_through(self):
        for name, node in nodes((ast.For, ast.comprehension)):
            self.assertNotIsInstance(node.iter, (ast.Set, ast.SetComp), name)

    def test_numbers_and_texts(self):
        for name, node in nodes(ast.BinOp):
            if isinstance(node.op, ast.Pow):
                self.assertTrue(isinstance(node.right, ast.Constant)
                                and 0 <= node.right.value <= 64, name)
        for name, node in nodes(ast.Constant):
            if isinstance(node.value, str):
                self.assertNotIn("%", node.value, name)

    def test_builtins_are_those_of_the_language(self):
        for name, node in nodes(ast.Name):
            if hasattr(builtins, node.id):
                self.assertIn(node.id, BUILTINS, name)

    def test_words_that_stand_nowhere(self):
        for path, text in sources():
            self.assertIsNone(WORDS.search(text), path)


if __name__ == "__main__":
    unittest.main()
