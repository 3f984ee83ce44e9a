"""Lines that are needed after a text: to be printed behind all that is decided.

In the states of this search the entry of a held line is the line itself if it is fixed, None if it can not be printed
any more, otherwise a tuple (line, changes, is_endless): a number for the line of the text, one for what was done to it
(the same one if that is the same), and whether there are infinitely many results.
"""

from linestream.charts import NEW, STORE, fixed_lines
from linestream.kinds import kinds_in
from linestream.search import Tree, reachable
from linestream.stages import Stage, laid_out, least_match, row_of
from linestream.values import common

# The line of the text that was read last.
OWN = -1


class Needs:
    """A search for texts after which many lines are needed."""

    def __init__(self, chart):
        self.chart = chart
        self._further = Stage(chart, chart.lines_told)
        self._names = printable(chart)
        self._parts = {}
        self._known = {}

    def own_entry(self, kind, choice):
        """The entry of the line that is read."""
        number = self.chart.lists[choice]
        entry = self.chart.kinds.entry(kind, number)
        return entry if isinstance(entry, str) else (OWN, entry, self.chart.kinds.is_endless(kind, number))

    def parts(self, number, stand):
        """What the reading of a line leads to, as the last one and not: a list of tuples (class, path, path, row)."""
        key = (number, stand)
        if key not in self._parts:
            found = []
            for last in self.chart.moves(number, stand, True):
                for path in self.chart.moves(number, stand, False):
                    rows = {}
                    choices = sorted(set([*last.choices(), *path.choices()]))
                    for kind in kinds_in(last.mask & path.mask):
                        rows.setdefault(tuple([self.own_entry(kind, choice) for choice in choices]), kind)
                    found.extend([(kind, last, path, row_of(choices, values) + self.chart.lines_told)
                                  for values, kind in rows.items()])
            self._parts[key] = found
        return self._parts[key]

    def greatest(self):
        """The greatest number of lines that are needed after a text, and the classes of one with as few lines as
        possible."""
        tree = Tree((0, self.chart.beginning(), ()))
        best, shown = 0, []
        at = 0
        while at < len(tree.nodes):
            number, stand, held = tree.nodes[at][0]
            base = laid_out(stand, held)
            for kind, last, path, row in self.parts(number, stand):
                lines = base + row
                behind = self.state_behind(path, lines)
                out = [lines[name] for name in last.out]
                printed = [lines[name] for name in path.out]
                # So many may be needed; mostly there is no need to look closer.
                if len(self.held_at(behind, lines_in([*out, *printed]))) > best:
                    many = self.needed(out, printed, behind)
                    if many > best:
                        best, shown = many, [*tree.path(at), kind]
                if behind is not None:
                    tree.meet(renumbered(behind), at, kind)
            at += 1
        return best, shown

    def state_behind(self, path, lines):
        """The state ahead of the next line, None if the script has ended."""
        if path.is_over:
            return None
        stand = path.stand()
        names = self._names[(path.reads, stand)]
        held = ([lines[name] if at in names else None for at, name in enumerate(path.seen)]
                + [lines[name] if STORE + at in names else None for at, name in enumerate(path.kept)])
        return (path.reads, stand, tuple(held))

    def held_at(self, state, lines):
        """The lines in a dict, together with those that can be printed from a state on."""
        return lines if state is None else {**lines, **lines_in(state[2])}

    def needed(self, out, printed, behind):
        """How many lines are needed after a text, with which the last reading prints out if it is the last one,
        otherwise printed."""
        key = (tuple(out), tuple(printed), behind)
        if key not in self._known:
            self._known[key] = len(self.all_needed(out, printed, behind))
        return self._known[key]

    def all_needed(self, out, printed, behind):
        many = common(out, printed)
        if many < len(printed) or behind is None:
            return self.held_at(behind, lines_in([*out[many:], *printed[many:]]))
        if many == len(out):
            return lines_in(behind[2])
        decided = least_match(self._further, behind, out[many:], fixed_lines(self.chart))
        return {**lines_in(out[many + decided:]), **self.printed_later(behind, decided)}

    def printed_later(self, state, decided):
        """The lines that are printed from a state on, behind so many lines that are printed for all texts."""
        if decided == 0:
            return lines_in(state[2])
        found = {}
        value = fixed_lines(self.chart)
        is_met = {(state, 0): True}
        waiting = [(state, 0)]
        while waiting:
            state, many = waiting.pop()
            for is_last in (True, False):
                for _, _, printed, behind in self._further.outcomes(state, is_last, value):
                    found = {**found, **lines_in(printed[decided - many:])}
                    place = (behind, many + len(printed))
                    if place[1] >= decided:
                        found = self.held_at(self.living(behind), found)
                    elif behind is not None and place not in is_met:
                        is_met[place] = True
                        waiting.append(place)
        return found

    def living(self, state):
        """A state without what can not be printed any more."""
        if state is None:
            return None
        number, stand, held = state
        names = self._names[(number, stand)]
        width = stand[3]
        return (number, stand, tuple([
            entry if (at if at < width else STORE + at - width) in names else None for at, entry in enumerate(held)]))


def lines_in(entries):
    """The lines of a text, whose results are infinitely many, among entries: a dict of True."""
    return {entry[0]: True for entry in entries if isinstance(entry, tuple) and entry[2]}


def renumbered(state):
    """A state whose lines are numbered anew, as they are met."""
    number, stand, held = state
    numbers = {}
    return (number, stand, tuple([
        (numbers.setdefault(entry[0], len(numbers)), *entry[1:]) if isinstance(entry, tuple) else entry
        for entry in held]))


def printable(chart):
    """For each number and stand that can come, the names of the held lines that can be printed from there on."""
    steps = [(node, chart.moves(*node, True), chart.moves(*node, False)) for node in stands_of(chart)]
    names = {}
    for node, lasts, paths in steps:
        printed = [name for path in [*lasts, *paths] for name in path.out if name < NEW]
        names[node] = {name: True for name in printed}
    is_new = True
    while is_new:
        is_new = False
        for node, _, paths in reversed(steps):
            many = len(names[node])
            for path in paths:
                if not path.is_over:
                    more = passed_on(path, names[(path.reads, path.stand())])
                    names[node] = {**names[node], **{name: True for name in more}}
            is_new = is_new or len(names[node]) > many
    return names


def passed_on(path, names):
    """The names, ahead of a path, of the held lines that have some names behind it."""
    return ([name for at, name in enumerate(path.seen) if at in names and name < NEW]
            + [name for at, name in enumerate(path.kept) if STORE + at in names and name < NEW])


def stands_of(chart):
    """All numbers and stands that can come."""
    return reachable((0, chart.beginning()), lambda state, is_last: [
        (False, 0, None if path.is_over else (path.reads, path.stand())) for path in chart.moves(*state, is_last)])
