"""What becomes of lines that are held, told by values that stand for them.

A state is a tuple (number, stand, held): a stand of a chart behind so many lines, and the values of the lines in the
window, then of those in the store.
"""

from linestream.charts import CHOICES, NEW, STORE
from linestream.kinds import kinds_in
from linestream.values import common

WIDEST = 3


def laid_out(stand, held):
    """The values of held lines, each at the place that its name tells."""
    width = stand[3]
    empty = [None] * WIDEST
    return (list(held[:width]) + empty)[:STORE] + (list(held[width:]) + empty)[:NEW - STORE]


def values_on(path, value):
    """The values of the line that is read, for the choices of changes with which it matters: a list of tuples (class,
    values), one for classes with equal values."""
    choices = path.choices()
    found = {}
    for kind in kinds_in(path.mask):
        found.setdefault(tuple([value(kind, choice) for choice in choices]), kind)
    return [(kind, row_of(choices, values)) for values, kind in found.items()]


def row_of(choices, values):
    """The values of the line that is read, at the places that its names tell."""
    row = [None] * CHOICES
    for choice, value in zip(choices, values):
        row[choice] = value
    return row


class Stage:
    """A chart, and the values of the lines that its script tells; those of other lines are told by one function
    value(kind, choice), always the same one."""

    def __init__(self, chart, told):
        self._chart = chart
        self._told = told
        self._parts = {}

    def beginning(self):
        """The state ahead of the first line."""
        return (0, self._chart.beginning(), ())

    def parts(self, number, stand, is_last, value):
        """The paths behind the reading of a line: a list of tuples (path, class, values)."""
        key = (number, stand, is_last)
        if key not in self._parts:
            self._parts[key] = [(path, kind, row + self._told)
                                for path in self._chart.moves(number, stand, is_last)
                                for kind, row in values_on(path, value)]
        return self._parts[key]

    def outcomes(self, state, is_last, value):
        """What the reading of a line leads to: a list of tuples (path, class, printed, behind): the values of the
        printed lines, and the state ahead of the next line, None if the script has ended."""
        number, stand, held = state
        base = laid_out(stand, held)
        found = []
        for path, kind, row in self.parts(number, stand, is_last, value):
            lines = base + row
            behind = None
            if not path.is_over:
                behind = (path.reads, path.stand(), tuple([lines[name] for name in path.seen + path.kept]))
            found.append((path, kind, [lines[name] for name in path.out], behind))
        return found


def least_match(stage, state, target, value):
    """With how many values of a target begins what is printed from a state on, whatever lines follow. (None as a value
    is equal to none of them.)"""
    least = len(target)
    is_met = {(state, 0): True}
    waiting = [(state, 0)]
    while waiting:
        state, many = waiting.pop()
        for is_last in (True, False):
            for _, _, printed, behind in stage.outcomes(state, is_last, value):
                alike = many + common(printed, target[many:])
                if alike < many + len(printed) or behind is None:
                    least = min(least, alike)
                elif alike < least and (behind, alike) not in is_met:
                    is_met[(behind, alike)] = True
                    waiting.append((behind, alike))
    return least
