"""[1]: the package and its interface, as far as it is there."""

import ast
import doctest
import importlib
import inspect
import unittest
from pathlib import Path

PACKAGE = Path(__file__).resolve().parent.parent / "linestream"

INTERFACE = {
    "conditions": ["Test", "Has", "Begins", "Ends", "Is", "Only", "Fails", "Both", "Either"],
    "errors": ["Beyond", "TooMany", "InvalidTest", "InvalidChange", "InvalidAddress", "InvalidCommand", "InvalidLine",
               "InvalidText", "InvalidRoom", "InvalidCheckpoint", "InvalidSkip", "InvalidBlock", "Unreadable",
               "InvalidRow", "OutOfRange", "NoName", "Nothing", "Finished"],
    "limits": ["MAX_WORD", "MAX_LINE", "MAX_DEPTH", "MAX_COMMANDS", "MAX_ROOM", "MAX_CLASSES", "MAX_BLOCKS",
               "MAX_LINES", "MAX_TIMES"],
}
PARAMETERS = {
    "Has": ["word"], "Begins": ["word"], "Ends": ["word"], "Is": ["line"], "Only": ["letters"], "Fails": ["test"],
    "Both": ["one", "other"], "Either": ["one", "other"],
}


def names_bound(module):
    """The names that the file of a module defines or assigns at its top."""
    names = []
    for statement in ast.parse((PACKAGE / f"{module}.py").read_text()).body:
        if isinstance(statement, (ast.ClassDef, ast.FunctionDef)):
            names.append(statement.name)
        if isinstance(statement, ast.Assign):
            names += [target.id for target in statement.targets]
    return names


class PackageTest(unittest.TestCase):
    def test_the_package_is_called_linestream(self):
        package = importlib.import_module("linestream")
        self.assertEqual(package.__name__, "linestream")
        self.assertEqual(Path(package.__file__).resolve(), PACKAGE / "__init__.py")

    def test_each_name_is_imported_from_its_module_and_defined_there(self):
        for module, names in INTERFACE.items():
            there = importlib.import_module(f"linestream.{module}")
            bound = names_bound(module)
            for name in names:
                with self.subTest(module=module, name=name):
                    self.assertTrue(hasattr(there, name))
                    self.assertEqual(bound.count(name), 1)
                    if inspect.isclass(getattr(there, name)):
                        self.assertEqual(getattr(there, name).__module__, f"linestream.{module}")

    def test_names_of_arguments(self):
        conditions = importlib.import_module("linestream.conditions")
        for name, expected in PARAMETERS.items():
            own = getattr(conditions, name)
            parameters = list(inspect.signature(own).parameters.values())
            self.assertEqual([each.name for each in parameters], expected)
            self.assertEqual({each.kind for each in parameters}, {inspect.Parameter.POSITIONAL_OR_KEYWORD})
            self.assertEqual({each.default for each in parameters}, {inspect.Parameter.empty})
            self.assertEqual(list(inspect.signature(own.holds).parameters), ["self", "line"])

    def test_the_examples_of_the_readme(self):
        lines = (PACKAGE.parent / "README.md").read_text().split("\n")
        # A fence would be taken for the last line of what is expected.
        text = "\n".join("" if line.startswith("```") else line for line in lines)
        examples = doctest.DocTestParser().get_doctest(text, {}, "README.md", "README.md", 0)
        result = doctest.DocTestRunner().run(examples)
        self.assertEqual(result.failed, 0)
        self.assertGreater(result.attempted, 0)


if __name__ == "__main__":
    unittest.main()
