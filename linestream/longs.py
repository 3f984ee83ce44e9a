"""Texts that may be very long, and runs on them."""

from linestream.blocks import cut, is_block, length_of, line_at_index, unlike_index, written_out
from linestream.errors import InvalidBlock, InvalidLine, OutOfRange, TooMany
from linestream.limits import MAX_BLOCKS
from linestream.lines import check_text, is_line
from linestream.loops import check_bounds, course_of
from linestream.twins import settled_at
from linestream.values import is_integer

# Lines that one call of part tells.
MOST_LINES = 1000


class LongText:
    """A text of blocks: tuples of some lines, and how often they stand there one behind another."""

    def __init__(self, *blocks, _blocks=None):
        for index, value in enumerate(blocks):
            if not is_block(value):
                raise InvalidBlock(index)
        if len(blocks) > MAX_BLOCKS:
            raise TooMany(MAX_BLOCKS)
        # Operators change nothing, so the blocks that they make are handed in here.
        self._blocks = tuple([(tuple(lines), times) for lines, times in blocks]) if _blocks is None else _blocks

    @classmethod
    def of(cls, text):
        check_text(text)
        return cls(_blocks=((tuple(text), 1),) if text else ())

    @property
    def length(self):
        return length_of(self._blocks)

    @property
    def blocks(self):
        return self._blocks

    def line_at(self, number):
        if not is_number(number, 1, self.length):
            raise OutOfRange(number)
        return line_at_index(self._blocks, number - 1)

    def part(self, first, last):
        if not is_number(first, 1, self.length):
            raise OutOfRange(first)
        if not is_number(last, first, min(self.length, first + MOST_LINES - 1)):
            raise OutOfRange(last)
        return written_out(cut(self._blocks, first - 1, last))

    def difference(self, other):
        index = unlike_index(self._blocks, other.blocks)
        return None if index is None else index + 1

    def __add__(self, other):
        return LongText(_blocks=self._blocks + other.blocks)

    def __eq__(self, other):
        return isinstance(other, LongText) and unlike_index(self._blocks, other._blocks) is None


def is_number(value, least, greatest):
    return is_integer(value) and least <= value <= greatest


def run_long(script, long):
    """The long text that a script prints."""
    return LongText(_blocks=course_of(script, long.blocks).printed_blocks())


def counts_long(script, long):
    """How often each command is done."""
    return tuple(course_of(script, long.blocks).totals())


def origin_long(script, long, index):
    """The origin of the printed line with this index."""
    course = course_of(script, long.blocks)
    if not is_number(index, 0, length_of(course.printed_blocks()) - 1):
        raise OutOfRange(index)
    return course.origin(index)


def settled(script, long, number, line):
    """The number of lines with which it ends to matter that the one with this number is exchanged; None if it does
    not."""
    check_bounds(script)
    if not is_number(number, 1, long.length):
        raise OutOfRange(number)
    if not is_line(line):
        raise InvalidLine(line)
    return settled_at(script, long.blocks, number, line)
