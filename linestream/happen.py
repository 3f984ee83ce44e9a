"""What can happen when a script goes through texts."""

from linestream.bounds import check_index
from linestream.charts import chart_of
from linestream.commands import placed, reduced, with_commands
from linestream.kinds import least_kind
from linestream.linesets import LineSet, before
from linestream.nevers import paths_in, state_at_first, states_of, steps_of_states
from linestream.running import origins, run
from linestream.scripts import Any
from linestream.search import greatest, shortest
from linestream.stages import Stage


def text_with_event(script, index, is_done):
    """A text for which a command is done, or is come to and not done, None if there is none."""
    chart = chart_of(script)
    check_index(index, len(script))
    path = shortest(state_at_first(chart), steps_of_states(chart, (index, is_done)))
    return None if path is None else chart.kinds.lines_on(path)


def reached(script, index):
    """A text for which a command is done, None if there is none."""
    return text_with_event(script, index, True)


def passed(script, index):
    """A text for which a command is come to and not done, None if there is none."""
    return text_with_event(script, index, False)


def events_of(script):
    """A dict of True for all that happens for some text: tuples (index, is_done) for commands that are come to."""
    chart = chart_of(script)
    events = {}
    for state in states_of(chart):
        for path in [*paths_in(chart, state, True), *paths_in(chart, state, False)]:
            for event in path.events:
                events[event] = True
    return events


def unused_by(script, events):
    return [index for index in range(len(script)) if (index, True) not in events]


def steady_by(script, events):
    return [index for index in range(len(script)) if (index, True) in events and (index, False) not in events]


def unused(script):
    """The indexes of the commands that are never done."""
    return tuple(unused_by(script, events_of(script)))


def steady(script):
    """The indexes of the commands that are done for some text, and whenever they are come to."""
    return tuple(steady_by(script, events_of(script)))


def bare(script):
    """The script without its unused commands, its steady ones without their addresses."""
    events = events_of(script)
    idle = unused_by(script, events)
    always = steady_by(script, events)
    commands = [placed(command, Any()) if index in always else command for index, command in enumerate(script.commands)]
    return reduced(with_commands(script, commands), [index for index in range(len(script)) if index not in idle])


def steps_of_stands(chart, found):
    """The steps of a search through states (number, stand), where a function tells what is found on a path."""
    return lambda state, is_last: [
        (found(path), least_kind(path.mask), None if path.is_over else (path.reads, path.stand()))
        for path in chart.moves(*state, is_last)]


def silent(script):
    """None if nothing is printed for any text, otherwise a text for which something is."""
    chart = chart_of(script)
    path = shortest((0, chart.beginning()), steps_of_stands(chart, lambda path: path.out != ()))
    return None if path is None else chart.kinds.lines_on(path)


def steps_of_rounds(chart):
    """The steps of a search for rounds that print much: through states (number, stand, many), many what the round has
    printed."""
    def steps(state, is_last):
        number, stand, many = state
        rows = []
        for path in chart.moves(number, stand, is_last):
            more = many + len(path.out)
            behind = None if path.is_over else (path.reads, path.stand(), 0 if path.is_round else more)
            rows.append((more if path.is_round else 0, least_kind(path.mask), behind))
        return rows
    return steps


def most_printed(script):
    """The greatest number of lines that are printed in one round, and a text for which a round prints so many."""
    chart = chart_of(script)
    many, path = greatest((0, chart.beginning(), 0), steps_of_rounds(chart))
    return many, chart.kinds.lines_on(path)


def most_kept(script):
    """The greatest number of lines in the store at once, and a text for which there are so many."""
    chart = chart_of(script)
    many, path = greatest((0, chart.beginning()), steps_of_stands(chart, lambda path: path.most))
    return many, chart.kinds.lines_on(path)


class Trial:
    """A test that is tried on all that a script can print."""

    def __init__(self, script, test):
        self.chart = chart_of(script, [test])
        self._script = script
        self._test = test
        self._sets = {}
        self._answers = {}

    def good(self, number):
        """The lines of whose results by a list of changes the test holds."""
        if number not in self._sets:
            self._sets[number] = before(self.chart.kinds.changes(number), LineSet.of(self._test))
        return self._sets[number]

    def can_fail(self, kind, number):
        """Whether the test does not hold of some result of a list of changes on a class."""
        key = (kind, number)
        if key not in self._answers:
            kinds = self.chart.kinds
            self._answers[key] = (not all([self._test.holds(line) for line in kinds.results(kind, number)])
                                  or not kinds.sets[kind].is_within(self.good(number)))
        return self._answers[key]

    def steps(self):
        """The steps of a search for a printed line of which the test does not hold."""
        chart = self.chart
        stage = Stage(chart, [not self._test.holds(line) for line in chart.lines_told])

        def value(kind, choice):
            return self.can_fail(kind, chart.lists[choice])

        def steps(state, is_last):
            return [(True in printed, kind, behind)
                    for _, kind, printed, behind in stage.outcomes(state, is_last, value)]
        return steps

    def beginning(self):
        return (0, self.chart.beginning(), ())

    def shown(self, path):
        """A text with lines of some classes, for which the test does not hold of some printed line."""
        kinds = self.chart.kinds
        text = kinds.lines_on(path)
        if not all([self._test.holds(line) for line in run(self._script, text)]):
            return text
        for number, indexes in origins(self._script, text):
            changes = kinds.number_of([self._script.commands[index].change for index in indexes]) if number else 0
            if number and self.can_fail(path[number - 1], changes):
                bad = kinds.sets[path[number - 1]] - self.good(changes)
                return [*text[:number - 1], bad.least, *text[number:]]
        return None


def all_printed(script, test):
    """None if for every text a test holds of each printed line, otherwise a text for which it does not."""
    trial = Trial(script, test)
    path = shortest(trial.beginning(), trial.steps())
    return None if path is None else trial.shown(path)
