"""Texts from which something is printed."""

from linestream.changes import done_all
from linestream.charts import Chart, Numbering, chart_of
from linestream.errors import InvalidText
from linestream.kinds import Kinds
from linestream.lines import is_text
from linestream.linesets import LineSet, before
from linestream.running import origins
from linestream.search import shortest
from linestream.stages import Stage

# Lines whose source is asked for.
MOST_LINES = 3
# In the values of held lines: what must not be printed any more, and the line that is read, ahead of all others.
BEHIND = 0
NEWEST = 9


def selection(script):
    """None if for every text the script only selects lines, otherwise a text on which it does not."""
    chart = chart_of(script)
    stage = Stage(chart, [(BEHIND, True)] * len(chart.lines_told))

    def value(kind, choice):
        return (NEWEST, chart.kinds.entry(kind, chart.lists[choice]) != chart.kinds.entry(kind, 0))

    def steps(state, is_last):
        return [(not does_select(printed), kind, None if behind is None else ranked(behind, printed))
                for _, kind, printed, behind in stage.outcomes(state, is_last, value)]
    path = shortest(stage.beginning(), steps)
    return None if path is None else shown_changed(script, chart.kinds, path)


def does_select(printed):
    """Whether printed lines, told by tuples (rank, is_changed), ascend and are as they were read."""
    ranks = [rank for rank, _ in printed]
    return not any([is_changed for _, is_changed in printed]) and are_ascending([BEHIND, *ranks])


def are_ascending(numbers):
    return all([one < other for one, other in zip(numbers, numbers[1:])])


def ranked(state, printed):
    """A state whose lines are ranked anew: those that are not behind the last printed one may be printed no more."""
    number, stand, held = state
    last = max([rank for rank, _ in printed], default=BEHIND)
    ranks = sorted(set([rank for rank, _ in held if rank > last]))
    return (number, stand, tuple([
        (1 + ranks.index(rank), is_changed) if rank > last else (BEHIND, False) for rank, is_changed in held]))


def shown_changed(script, kinds, path):
    """A text of lines of some classes for which the script does not only select lines."""
    text = kinds.lines_on(path)
    found = origins(script, text)
    numbers = [number for number, _ in found]
    if not are_ascending([0, *numbers]):
        return text
    for number, indexes in found:
        changes = kinds.number_of([script.commands[index].change for index in indexes])
        line = kinds.parting(path[number - 1], changes, 0)
        if line is not None:
            return [*text[:number - 1], line, *text[number:]]
    return None


def source(script, printed):
    """A text with as few lines as possible for which just these lines are printed, None if there is none."""
    chart = chart_of(script)
    if not is_text(printed) or len(printed) > MOST_LINES:
        raise InvalidText(printed)
    wanted = list(printed)
    sets = [before(chart.kinds.changes(number), LineSet(line)) for number in chart.lists for line in wanted]
    kinds = Kinds([script], sets)
    finer = Chart(script, kinds, Numbering([script]))
    stage = Stage(finer, finer.lines_told)

    def value(kind, choice):
        line = done_all(kinds.changes(finer.lists[choice]), kinds.firsts[kind])
        return line if line in wanted else None

    def steps(state, is_last):
        rows = []
        for _, kind, out, behind in stage.outcomes(state[0], is_last, value):
            many = state[1] + len(out)
            if out == wanted[state[1]:many]:
                is_whole = many == len(wanted) and (is_last or behind is None)
                rows.append((is_whole, kind, None if behind is None else (behind, many)))
        return rows
    path = [] if not wanted else shortest((stage.beginning(), 0), steps)
    return None if path is None else kinds.lines_on(path)
