"""[1]: the package and its interface, as far as it is there."""

import ast
import doctest
import importlib
import inspect
import unittest
from pathlib import Path

PACKAGE = Path(__file__).resolve().parent.parent / "linestream"

INTERFACE = {
    "conditions": ["Test", "Has", "Begins", "Ends", "Is", "Only", "Fails", "Both", "Either"],
    "changes": ["places", "LineChange", "First", "Every", "Swap", "Front", "Behind", "done_all"],
    "linesets": ["LineSet", "before", "parted_on", "result_on", "is_endless_on"],
    "classes": ["classes", "holding", "cases_of"],
    "scripts": ["If", "Kept", "Address", "Any", "Number", "Each", "Last", "Changed", "Not", "Range", "Count", "Command",
                "Change", "Print", "PrintFirst", "Tell", "Later", "Keep", "Put", "PutFirst", "Forget", "ForgetFirst",
                "Read", "Skip", "Drop", "Slide", "Stop", "Leave", "Script"],
    "running": ["run", "counts", "origins", "trace"],
    "sessions": ["Session"],
    "longs": ["LongText", "run_long", "origin_long", "counts_long", "settled"],
    "happen": ["reached", "passed", "unused", "steady", "bare", "silent", "most_printed", "most_kept", "all_printed"],
    "nevers": ["never", "first_state", "step", "is_never"],
    "likeness": ["agree", "varied", "alike", "outlook", "without", "swapped", "needless", "swappable"],
    "closing": ["closed_set", "is_closed_set"],
    "sources": ["selection", "source"],
    "lateness": ["late", "sure", "must_keep", "keeps"],
    "texts": ["write_script", "write_command", "read_script", "read_command"],
    "desks": ["Desk"],
    "errors": ["Beyond", "TooMany", "InvalidTest", "InvalidChange", "InvalidAddress", "InvalidCommand", "InvalidLine",
               "InvalidText", "InvalidRoom", "InvalidCheckpoint", "InvalidSkip", "InvalidBlock", "Unreadable",
               "InvalidRow", "OutOfRange", "NoName", "Nothing", "Finished"],
    "limits": ["MAX_WORD", "MAX_LINE", "MAX_DEPTH", "MAX_COMMANDS", "MAX_ROOM", "MAX_CLASSES", "MAX_BLOCKS",
               "MAX_LINES", "MAX_TIMES"],
}

# What functions and classes take, by position or by name.
PARAMETERS = {
    "conditions": {
        "Has": ["word"], "Begins": ["word"], "Ends": ["word"], "Is": ["line"], "Only": ["letters"], "Fails": ["test"],
        "Both": ["one", "other"], "Either": ["one", "other"],
    },
    "changes": {
        "First": ["old", "new"], "Every": ["old", "new"], "Swap": ["letters", "others"], "Front": ["word"],
        "Behind": ["word"], "places": ["line", "word"], "done_all": ["changes", "line"],
    },
    "linesets": {
        "before": ["changes", "lines"], "parted_on": ["changes", "others", "lines"], "result_on": ["changes", "lines"],
        "is_endless_on": ["changes", "lines"],
    },
    "classes": {"classes": ["cases"], "holding": ["cases", "lines"], "cases_of": ["script"]},
    "scripts": {
        "Number": ["number"], "Each": ["step", "start"], "If": ["test"], "Not": ["address"], "Range": ["start", "stop"],
        "Count": ["number"],
    },
    "running": {name: ["script", "text"] for name in INTERFACE["running"]},
    "sessions": {"Session": ["script"]},
    "longs": {
        "run_long": ["script", "long"], "origin_long": ["script", "long", "index"], "counts_long": ["script", "long"],
        "settled": ["script", "long", "number", "line"],
    },
    "happen": {
        "reached": ["script", "index"], "passed": ["script", "index"], "unused": ["script"], "steady": ["script"],
        "bare": ["script"], "silent": ["script"], "most_printed": ["script"], "most_kept": ["script"],
        "all_printed": ["script", "test"],
    },
    "nevers": {
        "never": ["script", "index", "is_done"], "first_state": ["script"], "step": ["script", "state", "kind", "is_last"],
        "is_never": ["script", "index", "is_done", "value"],
    },
    "likeness": {
        "agree": ["one", "other", "text"], "varied": ["one", "other", "text"], "alike": ["one", "other"],
        "outlook": ["one", "other", "text"], "without": ["script", "index"], "swapped": ["script", "index"],
        "needless": ["script"], "swappable": ["script"],
    },
    "closing": {"closed_set": ["one", "other"], "is_closed_set": ["one", "other", "value"]},
    "sources": {"selection": ["script"], "source": ["script", "printed"]},
    "lateness": {"late": ["script"], "sure": ["script", "text"], "must_keep": ["script"], "keeps": ["script"]},
    "texts": {
        "write_script": ["script"], "write_command": ["command"], "read_script": ["text"], "read_command": ["line"],
    },
    "desks": {"Desk": []},
}

# Methods and properties that stand in the body of the class itself.
BODIES = {
    "conditions": {name: ["holds", "__eq__"] for name in INTERFACE["conditions"][1:]},
    "changes": {name: ["done", "has_place", "__eq__"] for name in ("First", "Every", "Swap", "Front", "Behind")},
    "linesets": {"LineSet": ["of", "every", "__or__", "__and__", "__sub__", "__eq__", "__contains__", "__bool__",
                             "is_within", "table", "size", "least"]},
    "scripts": {
        "Script": ["commands", "window", "store", "is_quiet", "ranges", "__len__", "__eq__"],
        **{name: ["__eq__"] for name in INTERFACE["scripts"][3:-1] if name != "Command"},
    },
    "sessions": {"Session": ["feed", "finish", "script", "fed", "waiting", "printed", "has_ended", "is_finished", "copy",
                             "checkpoint", "resumed", "__eq__"]},
    "desks": {"Desk": ["scripts", "texts", "say"]},
    "longs": {"LongText": ["of", "length", "blocks", "__eq__", "__add__", "line_at", "part", "difference"]},
}


def names_bound(module):
    """The names that the file of a module defines or assigns at its top."""
    names = []
    for statement in ast.parse((PACKAGE / f"{module}.py").read_text()).body:
        if isinstance(statement, (ast.ClassDef, ast.FunctionDef)):
            names.append(statement.name)
        if isinstance(statement, ast.Assign):
            names += [target.id for target in statement.targets]
    return names


class PackageTest(unittest.TestCase):
    def test_the_package_is_called_linestream(self):
        package = importlib.import_module("linestream")
        self.assertEqual(package.__name__, "linestream")
        self.assertEqual(Path(package.__file__).resolve(), PACKAGE / "__init__.py")

    def test_each_name_is_imported_from_its_module_and_defined_there(self):
        for module, names in INTERFACE.items():
            there = importlib.import_module(f"linestream.{module}")
            bound = names_bound(module)
            for name in names:
                with self.subTest(module=module, name=name):
                    self.assertTrue(hasattr(there, name))
                    self.assertEqual(bound.count(name), 1)
                    if inspect.isclass(getattr(there, name)):
                        self.assertEqual(getattr(there, name).__module__, f"linestream.{module}")

    def test_names_of_arguments(self):
        for module, table in PARAMETERS.items():
            there = importlib.import_module(f"linestream.{module}")
            for name, expected in table.items():
                parameters = list(inspect.signature(getattr(there, name)).parameters.values())
                self.assertEqual([each.name for each in parameters], expected)
                self.assertLessEqual({each.kind for each in parameters}, {inspect.Parameter.POSITIONAL_OR_KEYWORD})
                self.assertLessEqual({each.default for each in parameters}, {inspect.Parameter.empty})

    def test_methods_stand_in_the_classes_themselves(self):
        for module, table in BODIES.items():
            there = importlib.import_module(f"linestream.{module}")
            for name, expected in table.items():
                self.assertLessEqual(set(expected), set(vars(getattr(there, name))), name)

    def test_the_examples_of_the_readme(self):
        lines = (PACKAGE.parent / "README.md").read_text().split("\n")
        # A fence would be taken for the last line of what is expected.
        text = "\n".join("" if line.startswith("```") else line for line in lines)
        examples = doctest.DocTestParser().get_doctest(text, {}, "README.md", "README.md", 0)
        result = doctest.DocTestRunner().run(examples)
        self.assertEqual(result.failed, 0)
        self.assertGreater(result.attempted, 0)


if __name__ == "__main__":
    unittest.main()
