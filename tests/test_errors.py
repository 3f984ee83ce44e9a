"""[91]: the eighteen errors."""

import unittest

from linestream import errors
from linestream.conditions import Has, Only
from tests.samples import no_lines, no_strings, strangers

BELOW = {
    ValueError: {
        "InvalidTest": ("argument",),
        "InvalidChange": ("argument",),
        "InvalidAddress": ("argument",),
        "InvalidCommand": ("argument",),
        "InvalidLine": ("value",),
        "InvalidText": ("value",),
        "InvalidRoom": ("value",),
        "InvalidCheckpoint": ("value",),
        "InvalidSkip": ("index",),
        "InvalidBlock": ("index",),
        "Unreadable": ("index", "place"),
        "InvalidRow": ("row",),
        "Beyond": ("bound",),
    },
    LookupError: {"OutOfRange": ("value",), "NoName": ("name",), "Nothing": ()},
    OverflowError: {"TooMany": ("limit",)},
    RuntimeError: {"Finished": ()},
}
FIELDS = {name: fields for group in BELOW.values() for name, fields in group.items()}


def any_values():
    return no_strings() + no_lines() + strangers() + ["", "a", Has("a"), Only("")]


def own_error(name):
    return getattr(errors, name)


class ErrorsTest(unittest.TestCase):
    def check_fields(self, error, fields, values):
        for field, value in zip(fields, values):
            self.assertIs(getattr(error, field), value)
        self.assertEqual(vars(error), dict(zip(fields, values)))

    def test_there_are_these_eighteen(self):
        there = [name for name in vars(errors) if not name.startswith("_")]
        self.assertEqual(sorted(there), sorted(FIELDS))
        self.assertEqual(len(there), 18)

    def test_the_python_error_is_directly_above(self):
        for above, group in BELOW.items():
            for name in group:
                with self.subTest(name=name):
                    self.assertEqual(own_error(name).__bases__, (above,))

    def test_no_other_error_is_above(self):
        for above, group in BELOW.items():
            for name in group:
                others = [each for each in BELOW if each is not above] + [own_error(each) for each in FIELDS if each != name]
                others += [KeyError, IndexError, UnicodeError, NotImplementedError, ArithmeticError]
                for other in others:
                    if other is ArithmeticError and above is OverflowError:
                        continue
                    with self.subTest(name=name, other=other.__name__):
                        self.assertFalse(issubclass(own_error(name), other))

    def test_by_position_and_by_name(self):
        for name, fields in FIELDS.items():
            for value in any_values():
                values = [value] * len(fields)
                with self.subTest(name=name, value=value):
                    self.check_fields(own_error(name)(*values), fields, values)
                    self.check_fields(own_error(name)(**dict(zip(fields, values))), fields, values)

    def test_two_fields(self):
        first, second = [1], {"a": []}
        self.check_fields(errors.Unreadable(first, second), ("index", "place"), (first, second))
        self.check_fields(errors.Unreadable(place=second, index=first), ("index", "place"), (first, second))
        self.check_fields(errors.Unreadable(first, place=second), ("index", "place"), (first, second))

    def test_the_values_are_kept_and_not_copied(self):
        row = ["a"]
        error = errors.InvalidRow(row)
        row.append("b")
        self.assertIs(error.row, row)
        self.assertEqual(error.row, ["a", "b"])

    def test_raised_and_caught(self):
        for above, group in BELOW.items():
            for name, fields in group.items():
                values = [object() for _ in fields]
                with self.subTest(name=name):
                    with self.assertRaises(above) as caught:
                        raise own_error(name)(*values)
                    self.assertIs(type(caught.exception), own_error(name))
                    self.check_fields(caught.exception, fields, values)

    def test_fields_must_be_as_many(self):
        for name, fields in FIELDS.items():
            if fields:
                with self.subTest(name=name):
                    self.assertRaises(TypeError, own_error(name))
                    self.assertRaises(TypeError, own_error(name), *range(len(fields) + 1))

    def test_not_equal_to_a_value_of_another_kind(self):
        for name, fields in FIELDS.items():
            error = own_error(name)(*["word" for _ in fields])
            for value in any_values() + [(), "word", ("word",)]:
                with self.subTest(name=name, value=value):
                    self.assertIs(error == value, False)
                    self.assertIs(error != value, True)


if __name__ == "__main__":
    unittest.main()
