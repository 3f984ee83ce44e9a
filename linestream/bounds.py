"""The bounds of questions for every text."""

from linestream.changes import Swap
from linestream.conditions import Is, Only, simple_tests
from linestream.errors import Beyond, OutOfRange
from linestream.loops import addresses_in
from linestream.scripts import Change, Count, Each, If, Kept, Number, Range
from linestream.streams import lines_named
from linestream.values import is_integer

MOST_COMMANDS = 8
MOST_ROOM = 3
MOST_RANGES = 1
MOST_TESTS = 3
MOST_KEPT = 1
MOST_CHANGES = 2
# Letters of a word or a line, and the letters of an Only or a Swap.
MOST_LETTERS = 2
MOST_SINGLE = 3
MOST_NUMBER = 3
MOST_STEP = 3
MOST_COUNT = 3


def changes_in(script):
    """The changes of the Change commands, in order."""
    return [command.change for command in script.commands if isinstance(command, Change)]


def tests_in(addresses):
    return [each.test for each in addresses if isinstance(each, (If, Kept)) and each.test is not None]


def kept_tests(addresses):
    """The tests of Kepts."""
    return [each.test for each in addresses if isinstance(each, Kept) and each.test is not None]


def named_numbers(addresses):
    """The numbers that Numbers, and the starts of Eachs, name."""
    return ([each.number for each in addresses if isinstance(each, Number)]
            + [each.start for each in addresses if isinstance(each, Each)])


def steps_in(addresses):
    return [each.step for each in addresses if isinstance(each, Each)]


def counts_in(ranges):
    return [each.stop.number for each in ranges if isinstance(each.stop, Count)]


def is_short_test(test):
    """Whether the word, line or letters of a test without tests within it are short enough."""
    if isinstance(test, Only):
        return len(test.letters) <= MOST_SINGLE
    return len(test.line if isinstance(test, Is) else test.word) <= MOST_LETTERS


def is_short_change(change):
    most = MOST_SINGLE if isinstance(change, Swap) else MOST_LETTERS
    return all([len(line) <= most for line in lines_named(change)])


def are_at_most(numbers, most):
    return all([number <= most for number in numbers])


def check_bounds_of(script, more=()):
    """Raises Beyond with the first bound that a script does not keep, together with the tests of some more."""
    addresses = addresses_in(script)
    ranges = [each for each in addresses if isinstance(each, Range)]
    simple = [each for test in [*tests_in(addresses), *more] for each in simple_tests(test)]
    changes = changes_in(script)
    if len(script) > MOST_COMMANDS:
        raise Beyond("commands")
    if script.window + script.store > MOST_ROOM:
        raise Beyond("room")
    if len(ranges) > MOST_RANGES:
        raise Beyond("ranges")
    if len(simple) > MOST_TESTS:
        raise Beyond("tests")
    if len(kept_tests(addresses)) > MOST_KEPT:
        raise Beyond("kept")
    if len(changes) > MOST_CHANGES:
        raise Beyond("changes")
    if not all([is_short_test(test) for test in simple] + [is_short_change(change) for change in changes]):
        raise Beyond("words")
    if not are_at_most(named_numbers(addresses), MOST_NUMBER):
        raise Beyond("number")
    if not are_at_most(steps_in(addresses), MOST_STEP):
        raise Beyond("step")
    if not are_at_most(counts_in(ranges), MOST_COUNT):
        raise Beyond("count")


def check_index(value, many):
    """Raises OutOfRange for any value that is no index of one of the first so many commands."""
    if not is_integer(value) or not 0 <= value < many:
        raise OutOfRange(value)
