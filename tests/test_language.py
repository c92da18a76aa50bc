"""The rules of ../shared/LANGUAGE.md that can be read off the code of the package."""

import ast
import builtins
import pathlib
import re
import unittest

PACKAGE = pathlib.Path(__file__).resolve().parent.parent / "snapdigits"
ALLOWED_BUILTINS = set(
    "len range enumerate zip min max sum abs sorted reversed int str bool bytes list tuple dict "
    "set isinstance ord repr any all divmod Exception ValueError TypeError KeyError IndexError "
    "LookupError ZeroDivisionError ArithmeticError OverflowError RuntimeError "
    "NotImplementedError AttributeError StopIteration NotImplemented".split())
ALLOWED_DUNDERS = {"__init__", "__eq__", "__repr__", "__str__", "__len__"}
BARRED_WORDS = re.compile(
    r"\b(type|typing|typing_extensions|enum|Enum|IntEnum|StrEnum|Flag|IntFlag|Generic|Protocol|ABC|ABCMeta"
    r"|namedtuple|NamedTuple|TypedDict|TYPE_CHECKING|abstractmethod)\b|dataclass|overload|contextmanager")
ALLOWED_METHODS = set(
    "append clear copy count endswith extend find get index insert isalnum isalpha isdigit islower isspace isupper "
    "items join keys ljust lower lstrip partition pop remove replace reverse rfind rjust rpartition rsplit rstrip "
    "setdefault split splitlines startswith strip update upper values zfill bit_length".split())
ALLOWED_KEYWORDS = {"sorted": {"key", "reverse"}, "min": {"key", "default"}, "max": {"key", "default"},
                    "sum": {"start"}, "enumerate": {"start"}, "zip": {"strict"}}
TAKE_LISTS = ("any", "all", "min", "max", "sum", "sorted")


def sources():
    return sorted(PACKAGE.rglob("*.py"))


def trees():
    return [(path.name, ast.parse(path.read_text("utf-8"))) for path in sources()]


def nodes(*kinds):
    """(file and line, node) for each node of these kinds in the package."""
    for name, tree in trees():
        for node in ast.walk(tree):
            if isinstance(node, kinds):
                yield f"{name}:{getattr(node, 'lineno', 0)}", node


class Files(unittest.TestCase):

    def test_only_plain_source_files(self):
        self.assertTrue(sources())
        for path in PACKAGE.rglob("*"):
            if "__pycache__" not in path.parts and path.is_file():
                self.assertRegex(path.name, r"\A(__init__|__main__|[a-z][a-z0-9_]*)\.py\Z")

    def test_characters_and_sizes(self):
        for path in sources():
            text = path.read_text("utf-8")
            self.assertRegex(text, r"\A[ -~\n]*\Z", path.name)
            rows = text.split("\n")
            self.assertLessEqual(len(rows), 400, path.name)
            self.assertLessEqual(max(len(row) for row in rows), 120, path.name)

    def test_functions_are_short(self):
        for place, node in nodes(ast.FunctionDef):
            self.assertLessEqual(node.end_lineno - node.lineno + 1, 40, place)

    def test_barred_words(self):
        for path in sources():
            self.assertIsNone(BARRED_WORDS.search(path.read_text("utf-8")), path.name)


class Names(unittest.TestCase):

    def test_imports_name_the_file_that_defines_the_name(self):
        self.assertEqual(list(nodes(ast.Import)), [])
        defined = {}
        for name, tree in trees():
            module = "snapdigits." + name[:-len(".py")]
            defined[module] = {node.name for node in tree.body if hasattr(node, "name")}
            defined[module] |= {node.targets[0].id for node in tree.body if isinstance(node, ast.Assign)}
        for place, node in nodes(ast.ImportFrom):
            for alias in node.names:
                self.assertIn(alias.name, defined[node.module], place)

    def test_builtins(self):
        barred = set(dir(builtins)) - ALLOWED_BUILTINS
        for place, node in nodes(ast.Name):
            self.assertNotIn(node.id, barred, place)
            if isinstance(node.ctx, ast.Store):
                self.assertNotIn(node.id, ALLOWED_BUILTINS, place)
        for place, node in nodes(ast.arg):
            self.assertFalse(hasattr(builtins, node.arg), place)

    def test_no_leading_underscore(self):
        for place, node in nodes(ast.Name, ast.arg, ast.Attribute, ast.FunctionDef, ast.ClassDef):
            name = [getattr(node, field) for field in ("id", "arg", "attr", "name") if hasattr(node, field)][0]
            if name not in ALLOWED_DUNDERS:
                self.assertFalse(name.startswith("_"), place)

    def test_bound_once_at_module_level(self):
        for name, tree in trees():
            bound = []
            for node in tree.body:
                if isinstance(node, ast.ImportFrom):
                    bound += [alias.asname or alias.name for alias in node.names]
                elif isinstance(node, ast.Assign):
                    bound += [target.id for target in node.targets]
                elif isinstance(node, (ast.FunctionDef, ast.ClassDef)):
                    bound.append(node.name)
            self.assertEqual(sorted(set(bound)), sorted(bound), name)

    def test_no_local_name_is_that_of_a_class_or_an_import(self):
        for name, tree in trees():
            taken = {node.name for node in tree.body if isinstance(node, ast.ClassDef)}
            for node in tree.body:
                if isinstance(node, ast.ImportFrom):
                    taken |= {alias.asname or alias.name for alias in node.names}
            for node in ast.walk(tree):
                if isinstance(node, ast.arg):
                    self.assertNotIn(node.arg, taken, f"{name}:{node.lineno}")
                elif isinstance(node, ast.Name) and isinstance(node.ctx, ast.Store):
                    self.assertNotIn(node.id, taken, f"{name}:{node.lineno}")

    def test_no_two_files_import_from_each_other(self):
        imported = {}
        for name, tree in trees():
            module = "snapdigits." + name[:-len(".py")]
            imported[module] = {node.module for node in tree.body if isinstance(node, ast.ImportFrom)}
        while imported:
            ready = [module for module in imported if not imported[module] & set(imported)]
            self.assertTrue(ready, imported)
            for module in ready:
                del imported[module]

    def test_no_name_is_a_method_and_an_attribute(self):
        methods = {part.name for _, node in nodes(ast.ClassDef) for part in node.body
                   if isinstance(part, ast.FunctionDef)}
        attributes = {node.attr for _, node in nodes(ast.Attribute) if isinstance(node.ctx, ast.Store)}
        self.assertEqual(methods & attributes, set())


class Expressions(unittest.TestCase):

    def test_powers_have_a_literal_exponent(self):
        for place, node in nodes(ast.BinOp):
            self.assertNotIsInstance(node.op, ast.Div, place)
            if isinstance(node.op, ast.Pow):
                self.assertIsInstance(node.right, ast.Constant, place)
                self.assertIn(node.right.value, range(65), place)

    def test_constants(self):
        for place, node in nodes(ast.Constant):
            self.assertNotIsInstance(node.value, (float, complex), place)
            if isinstance(node.value, str):
                self.assertNotIn("%", node.value, place)

    def test_is_stands_beside_none_true_and_false(self):
        for place, node in nodes(ast.Compare):
            if any(isinstance(sign, (ast.Is, ast.IsNot)) for sign in node.ops):
                self.assertIsInstance(node.comparators[0], ast.Constant, place)
                self.assertIn(str(node.comparators[0].value), ("None", "True", "False"), place)

    def test_no_generator_expression_where_a_class_compares(self):
        for place, node in nodes(ast.Call):
            if isinstance(node.func, ast.Name) and node.func.id in TAKE_LISTS:
                for argument in node.args:
                    self.assertNotIsInstance(argument, ast.GeneratorExp, place)

    def test_ranges_and_the_like_are_iterated_at_once(self):
        at_once = set()
        for _, node in nodes(ast.For, ast.comprehension):
            at_once.add(ast.dump(node.iter))
        for _, node in nodes(ast.Call):
            if isinstance(node.func, ast.Name) and node.func.id in ("list", "tuple", "dict", *TAKE_LISTS):
                at_once.update(ast.dump(argument) for argument in node.args[:1])
        for place, node in nodes(ast.Call):
            if isinstance(node.func, ast.Name) and node.func.id in ("range", "zip", "enumerate", "reversed"):
                self.assertIn(ast.dump(node), at_once, place)

    def test_methods_of_builtin_values(self):
        own = {part.name for _, node in nodes(ast.ClassDef) for part in node.body if isinstance(part, ast.FunctionDef)}
        for place, node in nodes(ast.Call):
            if isinstance(node.func, ast.Attribute):
                self.assertIn(node.func.attr, own | ALLOWED_METHODS, place)

    def test_keywords_of_builtins(self):
        for place, node in nodes(ast.Call):
            if isinstance(node.func, ast.Name) and node.func.id in ALLOWED_BUILTINS:
                for keyword in node.keywords:
                    self.assertIn(keyword.arg, ALLOWED_KEYWORDS.get(node.func.id, ()), place)

    def test_sets_are_sorted_or_counted_on_the_spot(self):
        on_the_spot = set()
        for _, node in nodes(ast.Call):
            if isinstance(node.func, ast.Name) and node.func.id in ("sorted", "len"):
                on_the_spot.update(ast.dump(argument) for argument in node.args)
        for place, node in nodes(ast.Call, ast.Set, ast.SetComp):
            if not isinstance(node, ast.Call) or isinstance(node.func, ast.Name) and node.func.id == "set":
                self.assertIn(ast.dump(node), on_the_spot, place)

    def test_attributes_that_are_read_are_assigned(self):
        methods = {part.name for _, node in nodes(ast.ClassDef) for part in node.body
                   if isinstance(part, ast.FunctionDef)}
        assigned = {node.attr for _, node in nodes(ast.Attribute) if isinstance(node.ctx, ast.Store)}
        for place, node in nodes(ast.Attribute):
            self.assertIn(node.attr, assigned | methods | ALLOWED_METHODS, place)

    def test_comparisons_have_the_plain_form(self):
        for place, node in nodes(ast.FunctionDef):
            if node.name == "__eq__":
                self.assertEqual(len(node.body), 1, place)
                self.assertIsInstance(node.body[0].value, ast.BoolOp, place)

    def test_statements(self):
        barred = (ast.Global, ast.AsyncFunctionDef, ast.AsyncFor, ast.AsyncWith, ast.Await)
        self.assertEqual([place for place, _ in nodes(*barred)], [])


if __name__ == "__main__":
    unittest.main()
