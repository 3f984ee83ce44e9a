"""Sets of lines, and what changes make of them."""

from linestream.changes import done_all
from linestream.errors import InvalidLine
from linestream.lines import is_line
from linestream.pairs import BOTH, EITHER, ONLY, is_any_made_of, made_of
from linestream.patterns import rows_of_lines, rows_of_test
from linestream.results import is_endless, rows_before, search_parted
from linestream.rows import ALL_LINES, first_of, has_line, letters_of, size_of


class LineSet:
    """A set of lines, perhaps infinite."""

    def __init__(self, *lines, _rows=None):
        for value in lines:
            if not is_line(value):
                raise InvalidLine(value)
        # Operators change nothing, so what they make of the rows of others is handed in here.
        self._rows = rows_of_lines(lines) if _rows is None else _rows

    @classmethod
    def of(cls, test):
        return cls(_rows=rows_of_test(test))

    @classmethod
    def every(cls):
        return cls(_rows=ALL_LINES)

    @property
    def rows(self):
        return self._rows

    @property
    def table(self):
        return tuple([(is_in, tuple([(letters_of(mask), index) for mask, index in moves]))
                      for is_in, moves in self._rows])

    @property
    def size(self):
        return size_of(self._rows)

    @property
    def least(self):
        return first_of(self._rows)

    def is_within(self, other):
        return not is_any_made_of(self._rows, other._rows, ONLY)

    def is_apart(self, other):
        """Whether no line is in both sets."""
        return not is_any_made_of(self._rows, other._rows, BOTH)

    def __or__(self, other):
        return LineSet(_rows=made_of(self._rows, other._rows, EITHER))

    def __and__(self, other):
        return LineSet(_rows=made_of(self._rows, other._rows, BOTH))

    def __sub__(self, other):
        return LineSet(_rows=made_of(self._rows, other._rows, ONLY))

    def __contains__(self, value):
        return is_line(value) and has_line(self._rows, value)

    def __bool__(self):
        return bool(self._rows[0] != (False, ()))

    def __eq__(self, other):
        return isinstance(other, LineSet) and self._rows == other._rows


def from_rows(rows):
    """The set that least rows tell."""
    return LineSet(_rows=rows)


def before(changes, lines):
    """The lines whose results are in a set."""
    return from_rows(rows_before(changes, lines.rows))


def parted_on(changes, others, lines):
    """The first line of a set for which two lists of changes have unlike results, None if there is none."""
    return search_parted(changes, others, lines.rows)


def result_on(changes, lines):
    """The one result that all lines of a set have, None if there is not just one."""
    least = lines.least
    if least is None:
        return None
    result = done_all(changes, least)
    return result if lines.is_within(before(changes, LineSet(result))) else None


def is_endless_on(changes, lines):
    """Whether the results of the lines of a set are infinitely many."""
    return is_endless(changes, lines.rows)
