"""The errors of the package. Each keeps the values that it is made from, under their names."""


class InvalidTest(ValueError):
    """An argument of a test, told by its name, is not as it must be."""

    def __init__(self, argument):
        self.argument = argument


class InvalidChange(ValueError):
    """An argument of a change, told by its name, is not as it must be."""

    def __init__(self, argument):
        self.argument = argument


class InvalidAddress(ValueError):
    """An argument of an address, told by its name, is not as it must be."""

    def __init__(self, argument):
        self.argument = argument


class InvalidCommand(ValueError):
    """An argument of a command, told by its name, or the commands of a script are not as they must be."""

    def __init__(self, argument):
        self.argument = argument


class InvalidLine(ValueError):
    """A value is no line."""

    def __init__(self, value):
        self.value = value


class InvalidText(ValueError):
    """A value is no list of lines."""

    def __init__(self, value):
        self.value = value


class InvalidRoom(ValueError):
    """A value is no room for a window or a store."""

    def __init__(self, value):
        self.value = value


class InvalidCheckpoint(ValueError):
    """A value tells no place where a session of the script can stand."""

    def __init__(self, value):
        self.value = value


class InvalidSkip(ValueError):
    """Behind the Skip with this index there are not so many commands."""

    def __init__(self, index):
        self.index = index


class InvalidBlock(ValueError):
    """The argument with this index is no block of a long text."""

    def __init__(self, index):
        self.index = index


class Unreadable(ValueError):
    """What is written is not of the form, from this place of the line with this index on."""

    def __init__(self, index, place):
        self.index = index
        self.place = place


class InvalidRow(ValueError):
    """A value is no row that a desk understands."""

    def __init__(self, row):
        self.row = row


class Beyond(ValueError):
    """A script does not keep a bound, told by its word."""

    def __init__(self, bound):
        self.bound = bound


class OutOfRange(LookupError):
    """A value is no index, number or place of what is asked."""

    def __init__(self, value):
        self.value = value


class NoName(LookupError):
    """A desk keeps nothing with this name."""

    def __init__(self, name):
        self.name = name


class Nothing(LookupError):
    """A desk has nothing to undo."""


class TooMany(OverflowError):
    """There are more than this limit."""

    def __init__(self, limit):
        self.limit = limit


class Finished(RuntimeError):
    """The end of the text was told to a session before."""
