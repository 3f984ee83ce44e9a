"""Two scripts beside each other, on texts whose lines are told by their classes.

A state is a tuple (number, first, second, rest). First and second are tuples (stand, held) for the scripts, None if
they have ended; held are the entries of the lines in the window, then of those in the store. Rest is a tuple (side,
entries): what the script of this side has printed more than the other one. An entry is a line if it is fixed,
otherwise a number, the same one for lines that are the same.
"""

from linestream.bounds import check_bounds_of
from linestream.charts import CHOICES, TOLD, Chart, Numbering
from linestream.kinds import Kinds, kinds_in
from linestream.rounds import Runner
from linestream.stages import laid_out
from linestream.values import common


class Joint:
    """Two charts over the same classes."""

    def __init__(self, one, other, kinds, numbering):
        self.scripts_run = (one, other)
        self.kinds = kinds
        self._numbering = numbering
        self._charts = (Chart(one, kinds, numbering), Chart(other, kinds, numbering))
        self._parts = {}
        self._groups = {}

    def beginning(self):
        """The state ahead of the first line."""
        first, second = [(chart.beginning(), ()) for chart in self._charts]
        return (0, first, second, (0, ()))

    def paths(self, side, number, stand, is_last):
        """The paths of a script, one without anything if it has ended."""
        return [None] if stand is None else self._charts[side].moves(number, stand, is_last)

    def entry(self, kind, number, is_plain):
        """The entry of a line of a class by a list of changes; if it is plain, never a line."""
        entry = self.kinds.entry(kind, number)
        return self._groups.setdefault((kind, entry), -1 - number) if is_plain and isinstance(entry, str) else entry

    def entries(self, side, path, kind, is_plain):
        """The entries of the line that is read, for the choices with which it matters."""
        if path is None:
            return ()
        chart = self._charts[side]
        return tuple([(choice, self.entry(kind, chart.lists[choice], is_plain)) for choice in path.choices()])

    def spread(self, side, entries):
        """The entries of the line that is read, and those of told lines, at the places that their names tell."""
        row = [None] * CHOICES + self._charts[side].lines_told
        for choice, entry in entries:
            row[choice] = entry
        return row

    def parts(self, number, stands, is_last, is_plain):
        """What the reading of a line leads to: a list of tuples (class, path and row of each script)."""
        key = (number, stands, is_last, is_plain)
        if key not in self._parts:
            found = []
            for path in self.paths(0, number, stands[0], is_last):
                for other in self.paths(1, number, stands[1], is_last):
                    found.extend(self.parts_of(path, other, is_plain))
            self._parts[key] = found
        return self._parts[key]

    def parts_of(self, path, other, is_plain):
        mask = self.kinds.all_kinds()
        mask = mask & (mask if path is None else path.mask) & (mask if other is None else other.mask)
        found = {}
        for kind in kinds_in(mask):
            found.setdefault((self.entries(0, path, kind, is_plain), self.entries(1, other, kind, is_plain)), kind)
        return [(kind, path, self.spread(0, entries[0]), other, self.spread(1, entries[1]))
                for entries, kind in found.items()]

    def outcomes(self, state, is_last, is_plain):
        """What the reading of a line leads to: a list of tuples (is_unlike, class, behind). It is unlike if what is
        printed then is not the same: all of it for the last line, otherwise as far as both have printed."""
        number, first, second, (side, rest) = state
        stands = (None if first is None else first[0], None if second is None else second[0])
        base = [] if first is None else laid_out(*first)
        other_base = [] if second is None else laid_out(*second)
        found = []
        for kind, path, row, other, other_row in self.parts(number, stands, is_last, is_plain):
            out, part = moved(path, base + row)
            other_out, other_part = moved(other, other_base + other_row)
            if side == 0:
                out = [*rest, *out]
            else:
                other_out = [*rest, *other_out]
            if is_last:
                found.append((out != other_out, kind, None))
                continue
            left = left_behind(out, other_out)
            behind = None if left is None else renumbered(self._numbering.behind(number), part, other_part, left)
            found.append((left is None, kind, behind))
        return found

    def steps(self, is_plain):
        """The steps of a search for a text on which the scripts do not agree."""
        return lambda state, is_last: self.outcomes(state, is_last, is_plain)

    def entry_of(self, side, held, kinds):
        """The entry of a line with its origin, in a text of lines of these classes; a tuple instead of a number."""
        line, number, indexes = held
        if number == 0:
            return line
        entry = self.kinds.entry(kinds[number - 1], self.changes(side, indexes))
        return entry if isinstance(entry, str) else (number, entry)

    def changes(self, side, indexes):
        """The number of the list of the changes of some commands."""
        commands = self.scripts_run[side].commands
        return self.kinds.number_of([commands[index].change for index in indexes])

    def state_after(self, text):
        """The state behind a begun text, None if what both scripts have printed is not the same."""
        kinds = [self.kinds.kind_of(line) for line in text]
        runners = [begun(script, text) for script in self.scripts_run]
        out, other_out = [[self.entry_of(side, held, kinds) for held in runner.out]
                          for side, runner in enumerate(runners)]
        left = left_behind(out, other_out)
        if left is None:
            return None
        first, second = [self.part_of(side, runner, kinds) for side, runner in enumerate(runners)]
        return renumbered(self._numbering.lessened(len(text)), first, second, left)

    def part_of(self, side, runner, kinds):
        """The stand of a runner, and the entries of what it holds."""
        if runner.is_over:
            return None
        held = [self.entry_of(side, each, kinds) for each in [*runner.seen, *runner.kept]]
        return self._charts[side].stand_of(runner), held

    def told(self, state):
        """An outlook: the state with the lines of Later, the window and the store by themselves."""
        number, first, second, rest = state
        return (number, self.told_part(0, first), self.told_part(1, second), rest)

    def told_part(self, side, part):
        if part is None:
            return None
        (place, opened, coming, width, answers), held = part
        lines = self._charts[side].lines_told
        later = tuple([lines[name - TOLD] for name in coming])
        return (place, opened, later, held[:width], tuple(list(zip(held[width:], answers))))


def moved(path, lines):
    """What is printed on a path, and the stand and the held lines behind it, None if the script has ended."""
    if path is None:
        return [], None
    out = [lines[name] for name in path.out]
    part = None if path.is_over else (path.stand(), [lines[name] for name in path.seen + path.kept])
    return out, part


def left_behind(out, other_out):
    """What one of both scripts has printed more than the other one: a tuple (side, entries); None if they have not
    printed the same as far as both have."""
    many = common(out, other_out)
    if many < min(len(out), len(other_out)):
        return None
    return (1, other_out[many:]) if len(other_out) > many else (0, out[many:])


def renumbered(number, first, second, left):
    """A state whose entries are numbered anew, as they are met."""
    numbers = {}
    parts = []
    for part in (first, second, left):
        if part is None:
            parts.append(None)
        else:
            parts.append((part[0], tuple([
                each if isinstance(each, str) else numbers.setdefault(each, len(numbers)) for each in part[1]])))
    return (number, *parts)


def begun(script, text):
    """A runner that has read all lines of a text, none of them as the last one."""
    runner = Runner(script)
    for line in text:
        if not runner.is_over:
            runner.read(line, False)
    return runner


def joint_of(one, other):
    """Two scripts beside each other; raises Beyond and TooMany."""
    check_bounds_of(one)
    check_bounds_of(other)
    return Joint(one, other, Kinds([one, other]), Numbering([one, other]))
