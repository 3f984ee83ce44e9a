"""Addresses, commands and scripts."""

from linestream.changes import is_change
from linestream.conditions import is_test
from linestream.errors import InvalidAddress, InvalidCommand, InvalidRoom, InvalidSkip, TooMany
from linestream.limits import MAX_COMMANDS, MAX_DEPTH, MAX_ROOM
from linestream.lines import is_line
from linestream.values import is_counting, is_integer


class Address:
    """What all addresses are below; an object of this class itself is no address."""


class Any(Address):
    """Always."""
    def __eq__(self, other):
        return isinstance(other, Any)


class Number(Address):
    """The newest line has this number."""
    def __init__(self, number):
        check_counting(number, "number")
        self._number = number

    @property
    def number(self):
        return self._number

    def __eq__(self, other):
        return isinstance(other, Number) and self._number == other._number


class Each(Address):
    """The number of the newest line is start, start + step, start + 2 * step, .."""
    def __init__(self, step, start):
        check_counting(step, "step")
        check_counting(start, "start")
        self._step = step
        self._start = start

    @property
    def step(self):
        return self._step

    @property
    def start(self):
        return self._start

    def __eq__(self, other):
        return isinstance(other, Each) and self._step == other._step and self._start == other._start


class Last(Address):
    """No line follows the newest line in the text."""
    def __eq__(self, other):
        return isinstance(other, Last)


class If(Address):
    """The test holds of the newest line as it is then."""
    def __init__(self, test):
        if not is_test(test):
            raise InvalidAddress("test")
        self._test = test

    @property
    def test(self):
        return self._test

    def __eq__(self, other):
        return isinstance(other, If) and self._test == other._test


class Changed(Address):
    """The newest line was changed since it was read."""
    def __eq__(self, other):
        return isinstance(other, Changed)


class Kept(Address):
    """The store is not empty and the test, if there is one, holds of its last line."""
    def __init__(self, test=None):
        if test is not None and not is_test(test):
            raise InvalidAddress("test")
        self._test = test

    @property
    def test(self):
        return self._test

    def __eq__(self, other):
        return isinstance(other, Kept) and self._test == other._test


class Not(Address):
    """The address does not hold."""
    def __init__(self, address):
        if not fits_within(address):
            raise InvalidAddress("address")
        self._address = address

    @property
    def address(self):
        return self._address

    def __eq__(self, other):
        return isinstance(other, Not) and self._address == other._address


class Range(Address):
    """From a line for which start holds up to one for which stop does."""
    def __init__(self, start, stop):
        if not fits_within(start) or ranges_of(start):
            raise InvalidAddress("start")
        if not isinstance(stop, Count) and (not fits_within(stop) or ranges_of(stop)):
            raise InvalidAddress("stop")
        self._start = start
        self._stop = stop

    @property
    def start(self):
        return self._start

    @property
    def stop(self):
        return self._stop

    def __eq__(self, other):
        return isinstance(other, Range) and self._start == other._start and self._stop == other._stop


class Count:
    """So many lines, as the stop of a Range."""
    def __init__(self, number):
        check_counting(number, "number")
        self._number = number

    @property
    def number(self):
        return self._number

    def __eq__(self, other):
        return isinstance(other, Count) and self._number == other._number


class Command:
    """What all commands are below; an object of this class itself is no command."""
    def __init__(self, *, at=None):
        if at is not None and not is_address(at):
            raise InvalidCommand("at")
        self.at = Any() if at is None else at


class Change(Command):
    """The newest line is changed."""
    def __init__(self, change, *, at=None):
        if not is_change(change):
            raise InvalidCommand("change")
        super().__init__(at=at)
        self._change = change

    @property
    def change(self):
        return self._change

    def __eq__(self, other):
        return isinstance(other, Change) and self._change == other._change and self.at == other.at


class Print(Command):
    """All lines of the window are printed."""
    def __eq__(self, other):
        return isinstance(other, Print) and self.at == other.at


class PrintFirst(Command):
    """The first line of the window is printed."""
    def __eq__(self, other):
        return isinstance(other, PrintFirst) and self.at == other.at


class Tell(Command):
    """This line is printed."""
    def __init__(self, line, *, at=None):
        if not is_line(line):
            raise InvalidCommand("line")
        super().__init__(at=at)
        self._line = line

    @property
    def line(self):
        return self._line

    def __eq__(self, other):
        return isinstance(other, Tell) and self._line == other._line and self.at == other.at


class Later(Command):
    """This line is printed at the end of the round."""
    def __init__(self, line, *, at=None):
        if not is_line(line):
            raise InvalidCommand("line")
        super().__init__(at=at)
        self._line = line

    @property
    def line(self):
        return self._line

    def __eq__(self, other):
        return isinstance(other, Later) and self._line == other._line and self.at == other.at


class Keep(Command):
    """The newest line is put into the store."""
    def __eq__(self, other):
        return isinstance(other, Keep) and self.at == other.at


class Put(Command):
    """All lines of the store are printed."""
    def __eq__(self, other):
        return isinstance(other, Put) and self.at == other.at


class PutFirst(Command):
    """The first line of the store is printed."""
    def __eq__(self, other):
        return isinstance(other, PutFirst) and self.at == other.at


class Forget(Command):
    """The store is emptied."""
    def __eq__(self, other):
        return isinstance(other, Forget) and self.at == other.at


class ForgetFirst(Command):
    """The first line of the store goes."""
    def __eq__(self, other):
        return isinstance(other, ForgetFirst) and self.at == other.at


class Read(Command):
    """The next line is read."""
    def __eq__(self, other):
        return isinstance(other, Read) and self.at == other.at


class Skip(Command):
    """The next so many commands are passed by."""
    def __init__(self, many, *, at=None):
        if not is_counting(many):
            raise InvalidCommand("many")
        super().__init__(at=at)
        self._many = many

    @property
    def many(self):
        return self._many

    def __eq__(self, other):
        return isinstance(other, Skip) and self._many == other._many and self.at == other.at


class Drop(Command):
    """The round ends, and the window is emptied."""
    def __eq__(self, other):
        return isinstance(other, Drop) and self.at == other.at


class Slide(Command):
    """The round ends, and the first line of the window goes."""
    def __eq__(self, other):
        return isinstance(other, Slide) and self.at == other.at


class Stop(Command):
    """The round and the script end."""
    def __eq__(self, other):
        return isinstance(other, Stop) and self.at == other.at


class Leave(Command):
    """The script ends at once."""
    def __eq__(self, other):
        return isinstance(other, Leave) and self.at == other.at


class Script:
    """Commands, the rooms of the window and the store, and whether the script is quiet."""
    def __init__(self, *commands, window=1, store=0, is_quiet=False):
        check_commands(commands)
        if not is_room(window, 1):
            raise InvalidRoom(window)
        if not is_room(store, 0):
            raise InvalidRoom(store)
        self._commands = commands
        self._window = window
        self._store = store
        self._is_quiet = is_quiet

    @property
    def commands(self):
        return self._commands

    @property
    def window(self):
        return self._window

    @property
    def store(self):
        return self._store

    @property
    def is_quiet(self):
        return self._is_quiet

    @property
    def ranges(self):
        return tuple([found for command in self._commands for found in ranges_of(command.at)])

    def __len__(self):
        return len(self._commands)

    def __eq__(self, other):
        return (isinstance(other, Script) and self._commands == other._commands and self._window == other._window
                and self._store == other._store and self._is_quiet == other._is_quiet)


def is_address(value):
    """Whether any value is an address."""
    # An object of Address itself is one of the package, too, but no address; likewise with commands.
    return isinstance(value, Address) and value.__class__.__name__ != "Address"


def is_command(value):
    """Whether any value is a command."""
    return isinstance(value, Command) and value.__class__.__name__ != "Command"


def inner(address):
    """The addresses that stand directly within an address, from left to right."""
    if isinstance(address, Not):
        return [address.address]
    if isinstance(address, Range):
        return [each for each in (address.start, address.stop) if is_address(each)]
    return []


def addresses_of(address):
    """An address and all those within it, from left to right."""
    return [address] + [found for each in inner(address) for found in addresses_of(each)]


def ranges_of(address):
    return [each for each in addresses_of(address) if isinstance(each, Range)]


def depth_of(address):
    return 1 + max([depth_of(each) for each in inner(address)], default=0)


def fits_within(value):
    """Whether any value is an address that may stand within one more address."""
    return is_address(value) and depth_of(value) < MAX_DEPTH


def check_counting(value, argument):
    if not is_counting(value):
        raise InvalidAddress(argument)


def check_commands(commands):
    if not all([is_command(command) for command in commands]):
        raise InvalidCommand("commands")
    if len(commands) > MAX_COMMANDS:
        raise TooMany(MAX_COMMANDS)
    for index, command in enumerate(commands):
        if isinstance(command, Skip) and index + command.many >= len(commands):
            raise InvalidSkip(index)


def is_room(value, least):
    return is_integer(value) and least <= value <= MAX_ROOM
