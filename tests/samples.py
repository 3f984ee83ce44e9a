"""Values that several tests use."""

from itertools import product

from linestream.changes import Behind, Every, First, Front, LineChange, Swap
from linestream.conditions import Begins, Both, Either, Ends, Fails, Has, Is, Only, Test
from linestream.errors import Finished, InvalidTest, Nothing, TooMany, Unreadable
from linestream.linesets import LineSet
from linestream.scripts import (
    Address, Any, Change, Changed, Command, Count, Drop, Each, Forget, ForgetFirst, If, Keep, Kept, Last, Later, Leave,
    Not, Number, Print, PrintFirst, Put, PutFirst, Range, Read, Script, Skip, Slide, Stop, Tell)

LETTERS = "".join(chr(code) for code in range(32, 127) if chr(code) != "%")


def nested(value, depth):
    """A value within so many lists and tuples."""
    for at in range(depth):
        value = [value] if at % 2 else (value,)
    return value


def in_order(lines):
    """Lines in the order of the document: fewer letters first, then the least."""
    return sorted(set(lines), key=lambda line: (len(line), line))


def no_strings():
    """Values of all kinds but strings: none of them is a line or a test."""
    return [
        None, True, False, 0, 1, -1, 37, 10 ** 60 - 1, -(10 ** 60 - 1),
        (), ("a",), ("a", "b"), [], ["a"], ["a", 1, None], {}, {"a": "a"}, {1: ["a"]}, {"word": "a"},
        nested("a", 8), nested(None, 8), {"a": {"b": [{}]}},
    ]


def no_lines():
    """Strings that are no lines."""
    return [
        "\t", "\n", "a\t", "a\n", "\na", "a\nb", "\r", "\x00", "\x1f", "\x7f", "\x80", "\xe9", "\u0661", "\u2028",
        "%", "a%", "%a", "a%b", "\t" * 1000, "a" * 7 + "%", "a" * 19 + "%", "a" * 19 + "\n",
    ]


def strangers():
    """Objects of the package that are no tests."""
    return [Test(), InvalidTest("word"), Nothing(), TooMany(8), Unreadable(0, 0), Finished()]


def some_tests():
    """Tests, no two of them equal."""
    return [
        Has("a"), Has("b"), Has("ab"), Begins("a"), Begins("b"), Ends("a"), Ends("b"), Is("a"), Is("b"), Is(""),
        Only("a"), Only("b"), Only(""), Only("ab"), Only("ba"), Fails(Has("a")), Fails(Begins("a")),
        Fails(Fails(Has("a"))), Both(Has("a"), Has("b")), Both(Has("b"), Has("a")), Both(Has("a"), Has("a")),
        Either(Has("a"), Has("b")), Either(Has("b"), Has("a")), Either(Has("a"), Has("a")),
        Both(Both(Has("a"), Has("b")), Has("c")), Both(Has("a"), Both(Has("b"), Has("c"))),
    ]


def lines_of(letters, most):
    """All lines of these letters, with at most so many of them."""
    return ["".join(line) for length in range(most + 1) for line in product(letters, repeat=length)]


def some_changes():
    """Changes, no two of them equal."""
    return [
        First("a", "b"), First("b", "a"), First("a", ""), First("aa", "a"), Every("a", "b"), Every("b", "a"),
        Every("a", ""), Every("aa", "a"), Swap("a", "b"), Swap("b", "a"), Swap("ab", "ba"), Swap("ba", "ab"),
        Swap("ab", "bb"), Swap("ba", "bb"), Front("a"), Front("b"), Front("ab"), Behind("a"), Behind("b"), Behind("ab"),
    ]


def some_addresses():
    """Addresses, no two of them equal."""
    return [
        Any(), Number(1), Number(2), Each(1, 1), Each(1, 2), Each(2, 1), Last(), If(Has("a")), If(Has("b")),
        If(Begins("a")), Changed(), Kept(), Kept(Has("a")), Kept(Has("b")), Not(Any()), Not(Number(1)), Not(Not(Any())),
        Not(Range(Any(), Last())), Range(Any(), Last()), Range(Last(), Any()), Range(Any(), Number(1)),
        Range(Any(), Count(1)), Range(Any(), Count(2)), Range(Number(1), Count(2)), Range(Kept(), Not(Changed())),
    ]


def some_commands():
    """Commands, no two of them equal."""
    plain = (Print, PrintFirst, Keep, Put, PutFirst, Forget, ForgetFirst, Read, Drop, Slide, Stop, Leave)
    return [
        *[kind() for kind in plain], *[kind(at=Last()) for kind in plain], *[kind(at=Number(1)) for kind in plain],
        Change(First("a", "b")), Change(Every("a", "b")), Change(First("a", "b"), at=Last()), Tell("a"), Tell(""),
        Tell("a", at=Last()), Later("a"), Later(""), Later("a", at=Last()), Skip(1), Skip(2), Skip(1, at=Last()),
    ]


def any_values():
    """Values of all kinds that are no line, test, change, address or command of their own right."""
    return no_strings() + no_lines() + strangers() + [
        LineChange(), Address(), Command(), Count(1), Script(), LineSet(), LineSet("a")]
