"""Values that several tests use."""

from itertools import product

from linestream.conditions import Begins, Both, Either, Ends, Fails, Has, Is, Only, Test
from linestream.errors import Finished, InvalidTest, Nothing, TooMany, Unreadable

LETTERS = "".join(chr(code) for code in range(32, 127) if chr(code) != "%")


def nested(value, depth):
    """A value within so many lists and tuples."""
    for at in range(depth):
        value = [value] if at % 2 else (value,)
    return value


def no_strings():
    """Values of all kinds but strings: none of them is a line or a test."""
    return [
        None, True, False, 0, 1, -1, 37, 10 ** 60 - 1, -(10 ** 60 - 1),
        (), ("a",), ("a", "b"), [], ["a"], ["a", 1, None], {}, {"a": "a"}, {1: ["a"]}, {"word": "a"},
        nested("a", 8), nested(None, 8), {"a": {"b": [{}]}},
    ]


def no_lines():
    """Strings that are no lines."""
    return [
        "\t", "\n", "a\t", "a\n", "\na", "a\nb", "\r", "\x00", "\x1f", "\x7f", "\x80", "\xe9", "\u0661", "\u2028",
        "%", "a%", "%a", "a%b", "\t" * 1000, "a" * 7 + "%", "a" * 19 + "%", "a" * 19 + "\n",
    ]


def strangers():
    """Objects of the package that are no tests."""
    return [Test(), InvalidTest("word"), Nothing(), TooMany(8), Unreadable(0, 0), Finished()]


def some_tests():
    """Tests, no two of them equal."""
    return [
        Has("a"), Has("b"), Has("ab"), Begins("a"), Begins("b"), Ends("a"), Ends("b"), Is("a"), Is("b"), Is(""),
        Only("a"), Only("b"), Only(""), Only("ab"), Only("ba"), Fails(Has("a")), Fails(Begins("a")),
        Fails(Fails(Has("a"))), Both(Has("a"), Has("b")), Both(Has("b"), Has("a")), Both(Has("a"), Has("a")),
        Either(Has("a"), Has("b")), Either(Has("b"), Has("a")), Either(Has("a"), Has("a")),
        Both(Both(Has("a"), Has("b")), Has("c")), Both(Has("a"), Both(Has("b"), Has("c"))),
    ]


def lines_of(letters, most):
    """All lines of these letters, with at most so many of them."""
    return ["".join(line) for length in range(most + 1) for line in product(letters, repeat=length)]
