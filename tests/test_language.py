"""What can be seen of the rules of the language, file by file of the package (L1 .. L27 are their numbers)."""

import ast
import builtins
import re
import unittest
import warnings
from pathlib import Path

PACKAGE = Path(__file__).resolve().parent.parent / "linestream"

LIBRARY = {
    "heapq": {"heappush", "heappop", "heapify", "heapreplace", "heappushpop"},
    "math": {"gcd", "lcm", "isqrt", "comb", "perm", "factorial"},
    "itertools": {"product", "combinations", "permutations"},
}
BUILTINS = set(
    "len range enumerate zip min max sum abs sorted reversed int str bool list tuple dict set frozenset isinstance ord "
    "repr any all divmod map iter next super property staticmethod classmethod NotImplemented Exception ValueError "
    "TypeError KeyError IndexError LookupError ZeroDivisionError ArithmeticError OverflowError RuntimeError "
    "NotImplementedError AttributeError StopIteration object".split())
DOUBLE = set(
    "init eq repr str len enter exit call iter lt le gt ge ne add sub mul floordiv mod pow and or xor lshift rshift radd "
    "rsub rmul rfloordiv rmod rand ror rxor rlshift rrshift iadd isub imul ifloordiv imod ipow iand ior ixor ilshift "
    "irshift neg pos invert abs bool contains getitem setitem".split())
METHODS = set(
    "append clear copy count endswith extend find get index insert isalnum isalpha isdigit islower isspace isupper items "
    "join keys ljust lower lstrip partition pop remove replace reverse rfind rjust rpartition rsplit rstrip setdefault "
    "split splitlines startswith strip update upper values zfill bit_length title capitalize swapcase casefold center "
    "expandtabs removeprefix removesuffix rindex isascii isdecimal isnumeric istitle isidentifier isprintable translate "
    "maketrans encode decode hex add discard sort".split())
NOWHERE = set("register mro elements open input law version_info with_traceback add_note".split())
BARRED = re.compile(
    r"\b(type|typing|typing_extensions|enum|Enum|IntEnum|StrEnum|Flag|IntFlag|Generic|Protocol|ABC|ABCMeta|namedtuple|"
    r"NamedTuple|TypedDict|TYPE_CHECKING|abstractmethod)\b|dataclass|overload|contextmanager|_wall\b|_WallAttr")
NOT_ALLOWED = (
    ast.Global, ast.AsyncFunctionDef, ast.AsyncFor, ast.AsyncWith, ast.Await, ast.Import, ast.Div, ast.MatMult)
CAUGHT = {"KeyError", "ZeroDivisionError", "StopIteration", "ValueError", "LookupError", "IndexError"}
NOT_CAUGHT = {"Exception", "TypeError", "ArithmeticError", "OverflowError", "RuntimeError", "NotImplementedError",
              "AttributeError", "BaseException"}


def sources():
    return [(path, path.read_text(encoding="utf-8")) for path in sorted(PACKAGE.glob("*.py"))]


def trees():
    return [(path, ast.parse(source)) for path, source in sources()]


def nodes(tree, *kinds):
    return [node for node in ast.walk(tree) if isinstance(node, kinds)]


def own_names():
    """The names of all functions, methods and classes of the package."""
    return {node.name for _, tree in trees() for node in nodes(tree, ast.FunctionDef, ast.ClassDef)}


class FilesTest(unittest.TestCase):
    def test_one_folder_of_plain_files(self):
        names = [path.name for path in PACKAGE.iterdir() if path.name != "__pycache__"]
        self.assertIn("__init__.py", names)
        self.assertLessEqual(len(names), 100)
        for name in names:
            self.assertTrue(name == "__init__.py" or re.fullmatch(r"[a-z][a-z0-9_]*\.py", name), name)
            self.assertFalse(re.match(r"law_|tests?(ing)?\.|test_|site\.|conftest|sitecustom|usercustom", name), name)
            self.assertNotIn(name[:-len(".py")], dir(builtins))

    def test_characters_and_sizes(self):
        for path, source in sources():
            lines = source.split("\n")
            self.assertLessEqual(len(lines), 399, path.name)
            for at, line in enumerate(lines, start=1):
                self.assertTrue(all(" " <= letter <= "~" for letter in line), (path.name, at))
                self.assertLessEqual(len(line), 120, (path.name, at))

    def test_small_functions(self):
        for path, tree in trees():
            for node in nodes(tree, ast.FunctionDef):
                first = min([node.lineno] + [each.lineno for each in node.decorator_list])
                self.assertLessEqual(node.end_lineno - first + 1, 40, (path.name, node.name))

    def test_python_gives_no_warning(self):
        with warnings.catch_warnings():
            warnings.simplefilter("error")
            for path, source in sources():
                compile(source, path.name, "exec")

    def test_words_that_do_not_occur(self):
        for path, source in sources():
            code = "\n".join(line.split("#")[0] for line in source.split("\n"))
            self.assertIsNone(BARRED.search(code), path.name)


class StatementsTest(unittest.TestCase):
    def test_imports(self):
        for path, tree in trees():
            for node in nodes(tree, ast.ImportFrom):
                names = {alias.name for alias in node.names}
                self.assertEqual(node.level, 0, path.name)
                self.assertFalse([alias for alias in node.names if alias.asname], path.name)
                if node.module in LIBRARY:
                    self.assertLessEqual(names, LIBRARY[node.module], path.name)
                else:
                    self.assertRegex(node.module, r"^linestream\.[a-z_]+$")
                    self.assertNotIn("*", names, path.name)

    def test_module_level(self):
        for path, tree in trees():
            stages = []
            for at, node in enumerate(tree.body):
                docstring = isinstance(node, ast.Expr) and isinstance(node.value, ast.Constant) and at == 0
                if not docstring:
                    self.assertIsInstance(node, (ast.ImportFrom, ast.FunctionDef, ast.ClassDef, ast.Assign), path.name)
                    stages.append(not isinstance(node, ast.ImportFrom))
                if isinstance(node, ast.Assign):
                    self.assertEqual([type(target) for target in node.targets], [ast.Name], path.name)
                    self.assertFalse(nodes(node.value, ast.Call, ast.ListComp, ast.DictComp, ast.Lambda), path.name)
            self.assertEqual(stages, sorted(stages), path.name)

    def test_each_name_is_bound_once(self):
        for path, tree in trees():
            bound = []
            for node in tree.body:
                if isinstance(node, ast.ImportFrom):
                    bound += [alias.name for alias in node.names]
                if isinstance(node, ast.Assign):
                    bound += [target.id for target in node.targets]
                if isinstance(node, (ast.FunctionDef, ast.ClassDef)):
                    bound.append(node.name)
            self.assertEqual(len(bound), len(set(bound)), path.name)

    def test_what_is_not_allowed(self):
        for path, tree in trees():
            self.assertFalse(nodes(tree, *NOT_ALLOWED), path.name)
            for node in nodes(tree, ast.Constant):
                self.assertNotIsInstance(node.value, (float, complex), path.name)
                if isinstance(node.value, str):
                    self.assertNotIn("%", node.value, path.name)

    def test_errors_that_are_caught(self):
        own = own_names()
        for path, tree in trees():
            for node in nodes(tree, ast.ExceptHandler):
                self.assertIsNotNone(node.type, path.name)
                for name in nodes(node.type, ast.Name):
                    self.assertNotIn(name.id, NOT_CAUGHT, path.name)
                    self.assertIn(name.id, CAUGHT | own, path.name)


class NamesTest(unittest.TestCase):
    def test_builtins(self):
        for path, tree in trees():
            for node in nodes(tree, ast.Name):
                # A doctest leaves the name _ among the builtins.
                if node.id in dir(builtins) and node.id != "_":
                    self.assertIn(node.id, BUILTINS, (path.name, node.lineno))
                    self.assertIsInstance(node.ctx, ast.Load, (path.name, node.lineno))
            for node in nodes(tree, ast.arg):
                self.assertNotIn(node.arg, dir(builtins), (path.name, node.lineno))

    def test_functions_classes_and_attributes(self):
        for path, tree in trees():
            names = [node.name for node in nodes(tree, ast.FunctionDef, ast.ClassDef)]
            names += [node.attr for node in nodes(tree, ast.Attribute)] + [node.id for node in nodes(tree, ast.Name)]
            for name in names:
                self.assertNotIn(name, NOWHERE, path.name)
                if name.startswith("__"):
                    self.assertIn(name.strip("_"), DOUBLE | {"class", "name"}, (path.name, name))
                else:
                    self.assertRegex(name, r"^(_|_?[A-Za-z][A-Za-z0-9_]*)$")

    def test_methods_that_are_called(self):
        own = own_names()
        for path, tree in trees():
            for node in nodes(tree, ast.Call):
                if isinstance(node.func, ast.Attribute) and node.func.attr != "__init__":
                    self.assertIn(node.func.attr, METHODS | own, (path.name, node.lineno))

    def test_decorators(self):
        for path, tree in trees():
            for node in nodes(tree, ast.FunctionDef, ast.ClassDef):
                for each in node.decorator_list:
                    plain = isinstance(each, ast.Name) and each.id in ("property", "staticmethod", "classmethod")
                    setter = isinstance(each, ast.Attribute) and each.attr == "setter"
                    self.assertTrue(plain or setter, (path.name, node.name))
                    self.assertIsInstance(node, ast.FunctionDef, (path.name, node.name))


class BindingsTest(unittest.TestCase):
    def test_imports_are_used_and_name_the_file_that_defines(self):
        bound = {}
        for path, tree in trees():
            tops = [node for node in tree.body if isinstance(node, (ast.FunctionDef, ast.ClassDef))]
            bound[path.stem] = {node.name for node in tops} | {
                node.targets[0].id for node in tree.body if isinstance(node, ast.Assign)}
        for path, tree in trees():
            used = {node.id for node in nodes(tree, ast.Name)}
            for node in nodes(tree, ast.ImportFrom):
                for alias in node.names:
                    self.assertIn(alias.name, used, path.name)
                    if node.module not in LIBRARY:
                        self.assertIn(alias.name, bound[node.module.split(".")[1]], path.name)

    def test_no_two_files_import_from_each_other(self):
        imports = {path.stem: {node.module.split(".")[-1] for node in nodes(tree, ast.ImportFrom)} for path, tree in trees()}
        for first in imports:
            reached, waiting = set(), [first]
            while waiting:
                for name in imports.get(waiting.pop(), ()):
                    self.assertNotEqual(name, first)
                    if name not in reached:
                        reached.add(name)
                        waiting.append(name)

    def test_no_variable_has_the_name_of_a_class_or_an_import(self):
        for path, tree in trees():
            taken = {alias.name for node in nodes(tree, ast.ImportFrom) for alias in node.names}
            taken |= {node.name for node in nodes(tree, ast.ClassDef)}
            stored = {node.id for node in nodes(tree, ast.Name) if isinstance(node.ctx, ast.Store)}
            stored |= {node.arg for node in nodes(tree, ast.arg)}
            self.assertFalse(taken & stored, path.name)

    def test_attributes_are_assigned_through_local_names(self):
        for path, tree in trees():
            for node in nodes(tree, ast.Attribute):
                if isinstance(node.ctx, ast.Store):
                    self.assertIsInstance(node.value, ast.Name, (path.name, node.lineno))

    def test_names_of_properties_are_names_of_nothing_else(self):
        properties, methods = set(), set()
        for _, tree in trees():
            for node in nodes(tree, ast.ClassDef):
                for each in node.body:
                    if isinstance(each, ast.FunctionDef):
                        marks = [mark.id for mark in each.decorator_list if isinstance(mark, ast.Name)]
                        (properties if "property" in marks else methods).add(each.name)
        self.assertFalse(properties & methods)
        for path, tree in trees():
            for node in nodes(tree, ast.Attribute):
                if isinstance(node.ctx, ast.Store):
                    self.assertNotIn(node.attr, properties | methods, (path.name, node.lineno))

    def test_methods_are_called_where_they_stand(self):
        methods, fields = set(), set()
        for _, tree in trees():
            for node in nodes(tree, ast.ClassDef):
                for each in nodes(node, ast.FunctionDef):
                    marks = [mark.id for mark in each.decorator_list if isinstance(mark, ast.Name)]
                    (fields if "property" in marks else methods).add(each.name)
            fields |= {node.attr for node in nodes(tree, ast.Attribute) if isinstance(node.ctx, ast.Store)}
        for path, tree in trees():
            called = [node.func for node in nodes(tree, ast.Call)]
            for node in nodes(tree, ast.Attribute):
                if node.attr in (methods | METHODS) - fields:
                    self.assertIn(node, called, (path.name, node.lineno))

    def test_behind_stars_stand_names_attributes_and_literals(self):
        properties = {each[2].name for every in functions().values() for each in every
                      if "property" in [mark.id for mark in each[2].decorator_list if isinstance(mark, ast.Name)]}
        for path, tree in trees():
            for node in nodes(tree, ast.Call):
                at = [isinstance(each, ast.Starred) for each in node.args]
                if True in at:
                    for each in node.args[at.index(True):] + [keyword.value for keyword in node.keywords]:
                        inner = each.value if isinstance(each, ast.Starred) else each
                        self.assertIsInstance(inner, (ast.Name, ast.Attribute, ast.Constant), (path.name, node.lineno))
                        self.assertNotIn(getattr(inner, "attr", ""), properties, (path.name, node.lineno))

    def test_no_generator_expressions(self):
        # A class of the package has __eq__, so all, any, sum and the like take lists.
        for path, tree in trees():
            self.assertFalse(nodes(tree, ast.GeneratorExp), path.name)

    def test_is_stands_beside_none_true_and_false(self):
        for path, tree in trees():
            for node in nodes(tree, ast.Compare):
                for operator, side in zip(node.ops, node.comparators):
                    if isinstance(operator, (ast.Is, ast.IsNot)):
                        self.assertIn(ast.unparse(side), ("None", "True", "False"), (path.name, node.lineno))


MODIFYING = set("append extend insert pop remove clear sort reverse update setdefault add discard".split())


def functions():
    """All functions and methods, by their names: tuples (file, class or None, function)."""
    found = {}
    for path, tree in trees():
        for node in tree.body:
            if isinstance(node, ast.FunctionDef):
                found.setdefault(node.name, []).append((path.name, None, node))
            if isinstance(node, ast.ClassDef):
                for each in nodes(node, ast.FunctionDef):
                    found.setdefault(each.name, []).append((path.name, node.name, each))
    return found


def is_pure(function):
    """Whether a function is an operator, a property, or one of the methods that modify nothing, too."""
    marks = [mark.id for mark in function.decorator_list if isinstance(mark, ast.Name)]
    return "property" in marks or function.name.startswith("__") and function.name != "__init__"


class PureTest(unittest.TestCase):
    """L5: what operators and properties run changes nothing but what it creates itself."""

    def reached(self):
        found = functions()
        waiting = [each for every in found.values() for each in every if is_pure(each[2])]
        reached = []
        while waiting:
            each = waiting.pop()
            if each not in reached:
                reached.append(each)
                for call in nodes(each[2], ast.Call):
                    name = call.func.id if isinstance(call.func, ast.Name) else getattr(call.func, "attr", "")
                    waiting += [other for other in found.get(name, []) if (other[1] is None) == isinstance(call.func, ast.Name)]
                    # A class that is called makes its object by its __init__.
                    waiting += [other for other in found["__init__"] if other[1] == name]
        return reached

    def own_containers(self, function):
        """The names that a function assigns nothing but containers that it creates."""
        own, others = set(), {each.arg for each in nodes(function, ast.arg)}
        for node in nodes(function, ast.Assign):
            created = isinstance(node.value, (ast.List, ast.Dict, ast.ListComp)) or (
                isinstance(node.value, ast.Call) and getattr(node.value.func, "id", "") in ("list", "dict", "sorted"))
            for target in node.targets:
                for name in nodes(target, ast.Name):
                    if isinstance(name.ctx, ast.Store):
                        (own if created and name is target else others).add(name.id)
        for node in nodes(function, ast.For, ast.comprehension, ast.AugAssign):
            others |= {name.id for name in nodes(node.target, ast.Name) if isinstance(name.ctx, ast.Store)}
        return own - others

    def test_they_are_reached(self):
        names = {each[2].name for each in self.reached()}
        self.assertLessEqual({"made_of", "least_rows", "grouped", "unlike_index", "stand", "addresses_of"}, names)

    def test_they_change_nothing(self):
        for file, _, function in self.reached():
            own, place = self.own_containers(function), (file, function.name)
            for node in ast.walk(function):
                # An object that is being made is new.
                if isinstance(node, ast.Attribute) and function.name != "__init__":
                    self.assertNotIsInstance(node.ctx, ast.Store, place)
                if isinstance(node, ast.Subscript) and not isinstance(node.ctx, ast.Load):
                    self.assertIn(ast.unparse(node.value), own, place)
                if isinstance(node, ast.Call) and getattr(node.func, "attr", "") in MODIFYING:
                    self.assertIn(ast.unparse(node.func.value), own, place)
                if isinstance(node, ast.AugAssign):
                    self.assertIsInstance(node.target, ast.Name, place)
                    self.assertIsInstance(node.value, ast.Constant, place)

    def names_of_attributes(self):
        """The names of all attributes that the package assigns, and of all its properties."""
        names = {node.attr for _, tree in trees() for node in nodes(tree, ast.Attribute) if isinstance(node.ctx, ast.Store)}
        for every in functions().values():
            for _, _, function in every:
                if "property" in [mark.id for mark in function.decorator_list if isinstance(mark, ast.Name)]:
                    names.add(function.name)
        return names

    def test_they_call_nothing_that_is_called_like_an_attribute(self):
        names = self.names_of_attributes()
        self.assertLessEqual({"index", "place", "value", "rows", "window", "_rows"}, names)
        for file, _, function in self.reached():
            for node in nodes(function, ast.Call):
                called = node.func.id if isinstance(node.func, ast.Name) else getattr(node.func, "attr", "")
                self.assertNotIn(called, names, (file, function.name))

    def test_the_place_of_a_letter_is_found_in_them(self):
        names = {each[2].name for each in self.reached()}
        self.assertLessEqual({"bit_of", "after_letter", "rows_of_lines", "__or__", "__and__", "__sub__", "__contains__"}, names)


if __name__ == "__main__":
    unittest.main()
