"""The package keeps to ../shared/LANGUAGE.md: a part of its rules, looked at in the written form of the files.

Not looked at: L11, L13, L22, L23, L28, and of L19 which calls may stand in a try.
"""

import ast
import builtins
import pathlib
import re
import unittest

ROOT = pathlib.Path(__file__).resolve().parent.parent
PACKAGE = ROOT / "stitchroom"

PYTHON_NAMES = set(dir(builtins))
OWN_NAMES = set(
    "len range enumerate zip min max sum abs sorted reversed int str bool list tuple dict set frozenset isinstance "
    "ord repr any all divmod Exception ValueError TypeError KeyError IndexError LookupError ZeroDivisionError "
    "ArithmeticError OverflowError RuntimeError NotImplementedError AttributeError StopIteration".split()
)
OWN_METHODS = set(
    "append clear copy count endswith extend find get index insert isalnum isalpha isdigit islower isspace isupper "
    "items join keys ljust lower lstrip partition pop remove replace reverse rfind rjust rpartition rsplit rstrip "
    "setdefault split splitlines startswith strip update upper values zfill bit_length __init__".split()
)
BANNED_NAMES = set(
    "register mro elements open input version_info with_traceback add_note attrgetter breakpoint builtins compile "
    "copyright credits delattr dir eval exec exit gc getattr globals hasattr help id importlib license locals "
    "methodcaller os quit setattr super type vars sys chr print format format_map".split()
)
BANNED_VALUES = set(
    "items keys values pop update append clear extend insert remove reverse setdefault sort args encode format".split()
)
BANNED_WORDS = re.compile(
    r"\b(type|typing|typing_extensions|enum|Enum|IntEnum|StrEnum|Flag|IntFlag|Generic|Protocol|ABC|ABCMeta|namedtuple"
    r"|NamedTuple|TypedDict|TYPE_CHECKING|abstractmethod)\b|dataclass|overload|contextmanager"
)
BANNED_FILES = re.compile(r"test|tests|testing|test_.*|site|conftest|sitecustomize|usercustomize")
CHANGES = set("append clear extend insert pop remove reverse setdefault update".split())
FORMS = set(
    "Module FunctionDef ClassDef Return Assign AugAssign For While If Raise Try ExceptHandler Pass Break Continue Expr "
    "ImportFrom alias BoolOp BinOp UnaryOp Compare IfExp Call Attribute Subscript Slice Name Load Store Constant List "
    "Tuple Dict ListComp comprehension JoinedStr FormattedValue Lambda arguments arg keyword And Or Not Add Sub Mult "
    "FloorDiv Mod Pow LShift RShift BitOr BitAnd BitXor Invert UAdd USub Eq NotEq Lt LtE Gt GtE Is IsNot In "
    "NotIn".split()
)


def files():
    return sorted(PACKAGE.rglob("*.py"))


def tree(path):
    return ast.parse(path.read_text(encoding="utf-8"))


def nodes(path, *kinds):
    return [node for node in ast.walk(tree(path)) if isinstance(node, kinds)]


def classes():
    return [node for path in files() for node in nodes(path, ast.ClassDef)]


def methods():
    return {part.name for found in classes() for part in found.body if isinstance(part, ast.FunctionDef)}


def stored_values():
    return {
        node.attr for path in files() for node in nodes(path, ast.Attribute) if isinstance(node.ctx, ast.Store)
    }


def top_names(path):
    """All names that a file binds at its top, each as often as it is bound, and apart those that it draws."""
    bound, drawn = [], []
    for part in tree(path).body:
        if isinstance(part, (ast.FunctionDef, ast.ClassDef)):
            bound.append(part.name)
        elif isinstance(part, ast.Assign):
            bound.extend(target.id for target in part.targets)
        elif isinstance(part, ast.ImportFrom):
            drawn.extend(name.name for name in part.names)
    return bound, drawn


def plain(value):
    """Whether a value of a file's top is one that L3 lets be."""
    if isinstance(value, (ast.Constant, ast.Name)):
        return True
    if isinstance(value, ast.UnaryOp):
        return isinstance(value.operand, ast.Constant)
    if isinstance(value, (ast.List, ast.Tuple)):
        return all(plain(part) for part in value.elts)
    if isinstance(value, ast.Dict):
        return all(plain(part) for part in value.keys + value.values)
    return False


def local_names(path):
    names = [node.arg for node in nodes(path, ast.arg)]
    for found in nodes(path, ast.FunctionDef):
        for node in ast.walk(found):
            if isinstance(node, ast.Name) and isinstance(node.ctx, ast.Store):
                names.append(node.id)
            if isinstance(node, ast.ExceptHandler) and node.name:
                names.append(node.name)
    return names


class Checked(unittest.TestCase):
    def check(self, holds, rule, path, node=None):
        line = getattr(node, "lineno", 0)
        self.assertTrue(holds, f"{rule}: {path.name}, line {line}")


class TestFiles(Checked):
    def test_files_are_there(self):
        self.assertTrue((PACKAGE / "__init__.py").is_file())
        self.assertGreater(len(files()), 1)

    def test_names_and_nothing_else(self):
        for path in PACKAGE.rglob("*"):
            if "__pycache__" in path.parts:
                continue
            self.check(path.suffix == ".py", "L1", path)
            self.check(re.fullmatch(r"[a-z][a-z0-9_]*|__init__|__main__", path.stem), "L14", path)
            self.check(not BANNED_FILES.fullmatch(path.stem), "L14", path)
            self.check(path.stem not in PYTHON_NAMES, "L14", path)

    def test_signs_and_sizes(self):
        for path in files():
            text = path.read_bytes().decode("utf-8")
            self.check(all(sign == "\n" or " " <= sign <= "~" for sign in text), "L14", path)
            rows = text.split("\n")
            self.check(len(rows) <= 400 and all(len(row) <= 120 for row in rows), "L10", path)
            self.check(not BANNED_WORDS.search(text), "L17", path)
            for node in nodes(path, ast.FunctionDef):
                self.check(node.end_lineno - node.lineno < 40, "L10", path, node)

    def test_the_top_of_a_file(self):
        for path in files():
            for place, part in enumerate(tree(path).body):
                if isinstance(part, ast.Expr):
                    self.check(place == 0 and isinstance(part.value, ast.Constant), "L3", path, part)
                elif isinstance(part, ast.Assign):
                    self.check(plain(part.value), "L3", path, part)
                    self.check_nothing_kept(path, part)
                else:
                    self.check(isinstance(part, (ast.ImportFrom, ast.FunctionDef, ast.ClassDef)), "L3", path, part)
            bound, drawn = top_names(path)
            self.check(len(set(bound + drawn)) == len(bound + drawn), "L15", path)

    def check_nothing_kept(self, path, part):
        for node in ast.walk(part.value):
            if node is not part.value:
                self.check(not isinstance(node, (ast.List, ast.Dict)), "L15", path, node)
        if not isinstance(part.value, (ast.List, ast.Dict)):
            return
        for node in nodes(path, ast.Attribute, ast.Subscript):
            if isinstance(node.value, ast.Name) and node.value.id == part.targets[0].id:
                changed = isinstance(node.ctx, ast.Store) or getattr(node, "attr", "") in CHANGES
                self.check(not changed, "L15", path, node)

    def test_imports(self):
        drawn_from = {}
        for path in files():
            drawn_from[path.stem] = []
            for node in nodes(path, ast.ImportFrom):
                words = node.module.split(".")
                self.check(node.level == 0 and len(words) == 2 and words[0] == "stitchroom", "L2", path, node)
                self.check(node.col_offset == 0, "L2", path, node)
                bound, drawn = top_names(PACKAGE / (words[1] + ".py"))
                for name in node.names:
                    self.check(name.name in bound and name.asname is None, "L16", path, node)
                drawn_from[path.stem].append(words[1])
        while drawn_from:
            free = [name for name in drawn_from if not set(drawn_from[name]) & set(drawn_from)]
            self.assertTrue(free, f"L16: drawn in a ring: {sorted(drawn_from)}")
            for name in free:
                drawn_from.pop(name)


class TestForms(Checked):
    def test_statements_and_expressions(self):
        for path in files():
            for node in ast.walk(tree(path)):
                self.check(type(node).__name__ in FORMS, "L6 or L7", path, node)
            for node in nodes(path, ast.Expr):
                self.check(isinstance(node.value, (ast.Call, ast.Constant)), "L6", path, node)
            for node in nodes(path, ast.For, ast.While):
                self.check(not node.orelse, "L6", path, node)
            for node in nodes(path, ast.Assign):
                self.check(len(node.targets) == 1, "L6", path, node)
            for node in nodes(path, ast.ListComp):
                self.check(len(node.generators) == 1 and len(node.generators[0].ifs) <= 1, "L7", path, node)
            for node in nodes(path, ast.FormattedValue):
                self.check(isinstance(node.value, ast.Name) and node.format_spec is None, "L7", path, node)
            for node in nodes(path, ast.Compare):
                self.check_is(path, node)

    def check_is(self, path, node):
        for word, other in zip(node.ops, node.comparators):
            if isinstance(word, (ast.Is, ast.IsNot)):
                told = isinstance(other, ast.Constant) and other.value in (None, True, False)
                self.check(told, "L20", path, node)

    def test_errors_taken(self):
        for path in files():
            for node in nodes(path, ast.Try):
                self.check(not node.finalbody, "L6", path, node)
            for node in nodes(path, ast.ExceptHandler):
                taken = node.type.elts if isinstance(node.type, ast.Tuple) else [node.type]
                for name in taken:
                    named = isinstance(name, ast.Name) and name.id not in ("Exception", "TypeError")
                    self.check(named, "L19", path, node)
            for node in nodes(path, ast.Raise):
                self.check(isinstance(node.exc, ast.Call), "L19", path, node)

    def test_written_values(self):
        for path in files():
            for node in nodes(path, ast.Constant):
                value = node.value
                self.check(value is None or isinstance(value, (int, str)), "L7", path, node)
                self.check(not isinstance(value, str) or "%" not in value, "L27", path, node)

    def test_functions(self):
        for path in files():
            for node in nodes(path, ast.FunctionDef, ast.Lambda):
                given = node.args
                bare = not (given.vararg or given.kwarg or given.kwonlyargs or given.posonlyargs)
                self.check(bare and not getattr(node, "decorator_list", []), "L4", path, node)
                self.check(all(plain(value) for value in given.defaults), "L4", path, node)
                self.check(all(arg.annotation is None for arg in given.args), "L21", path, node)
                self.check(getattr(node, "returns", None) is None, "L21", path, node)

    def test_classes(self):
        for path in files():
            for node in nodes(path, ast.ClassDef):
                self.check(node.col_offset == 0, "L15", path, node)
                self.check(len(node.bases) <= 1 and not node.keywords and not node.decorator_list, "L5", path, node)
                told = [part.name for part in node.body if isinstance(part, ast.FunctionDef)]
                self.check(len(set(told)) == len(told), "L18", path, node)
                for name in told:
                    self.check(name == "__init__" or not name.startswith("_"), "L5", path, node)
                for part in node.body:
                    self.check(isinstance(part, (ast.FunctionDef, ast.Expr)), "L5", path, part)

    def test_no_name_is_a_method_and_a_value(self):
        self.assertEqual(methods() & stored_values(), set(), "L18")
        self.assertEqual(BANNED_VALUES & stored_values(), set(), "L26")


class TestNames(Checked):
    def test_names(self):
        for path in files():
            for node in nodes(path, ast.Name):
                self.check(re.fullmatch(r"[A-Za-z][A-Za-z0-9_]*", node.id), "L12", path, node)
                self.check(node.id not in BANNED_NAMES, "L17", path, node)
                self.check(node.id in OWN_NAMES or node.id not in PYTHON_NAMES, "L8", path, node)
            for node in nodes(path, ast.FunctionDef, ast.ClassDef):
                self.check(re.fullmatch(r"[A-Za-z][A-Za-z0-9_]*|__init__", node.name), "L12", path, node)

    def test_locals_take_no_other_meaning(self):
        for path in files():
            bound, drawn = top_names(path)
            taken = {node.name for node in nodes(path, ast.ClassDef)} | set(drawn)
            for name in local_names(path) + bound:
                self.check(not name.startswith("_"), "L12", path)
                self.check(name not in PYTHON_NAMES, f"L15 ({name})", path)
            for name in local_names(path):
                self.check(name not in taken, f"L15 ({name})", path)

    def test_methods_and_values(self):
        known = OWN_METHODS | methods() | stored_values()
        for path in files():
            for node in nodes(path, ast.Attribute):
                self.check(node.attr in known and node.attr not in BANNED_NAMES, f"L25 ({node.attr})", path, node)

    def test_classes_are_called_and_not_kept(self):
        own = {node.name for node in classes()}
        for path in files():
            let_be = set()
            for node in nodes(path, ast.Call):
                let_be.add(node.func)
                if isinstance(node.func, ast.Name) and node.func.id == "isinstance":
                    let_be.update(ast.walk(node.args[1]))
                if isinstance(node.func, ast.Attribute) and node.func.attr == "__init__":
                    let_be.add(node.func.value)
            names = {(node.lineno, node.col_offset) for node in let_be if isinstance(node, ast.Name)}
            for node in nodes(path, ast.ClassDef):
                names.update((base.lineno, base.col_offset) for base in node.bases)
            for node in nodes(path, ast.ExceptHandler):
                names.update((part.lineno, part.col_offset) for part in ast.walk(node.type) if hasattr(part, "lineno"))
            for node in nodes(path, ast.Name):
                if node.id in own:
                    self.check((node.lineno, node.col_offset) in names, "L18", path, node)


if __name__ == "__main__":
    unittest.main()
