"""What never happens: states, what happens in them, and papers that show it."""

from linestream.bounds import check_index
from linestream.charts import chart_of
from linestream.checkpoints import are_ranges, is_place
from linestream.kinds import least_kind
from linestream.search import reachable
from linestream.values import is_integer

NEVER = "never"


def state_at_first(chart):
    return (0, 0, chart.beginning()[1], ())


def paths_in(chart, state, is_last):
    """What happens when lines of all classes are read in a state."""
    place, number, ranges, store = state
    # What is in the window, and which lines of Later wait, does not matter for what is done.
    return chart.paths(number, (place, ranges, (), 0, store), is_last)


def state_behind(path):
    """The state ahead of the next line, None if the script has ended."""
    return None if path.is_over else (path.place, path.reads, path.opened, path.answers)


def steps_of_states(chart, event):
    """The steps of a search for an event through all states."""
    return lambda state, is_last: [
        (event in path.events, least_kind(path.mask), state_behind(path)) for path in paths_in(chart, state, is_last)]


def states_of(chart):
    """All states that can come."""
    return reachable(state_at_first(chart), steps_of_states(chart, None))


def does_happen(chart, states, event):
    """Whether an event happens in one of some states."""
    return any([event in path.events
                for state in states for is_last in (True, False) for path in paths_in(chart, state, is_last)])


def first_state(script):
    """The state ahead of the first line."""
    return state_at_first(chart_of(script))


def step(script, state, kind, is_last):
    """What happens if a line of a class is read in a state: the state ahead of the next line, and the commands that are
    come to, each with whether it is done."""
    found = [path for path in paths_in(chart_of(script), state, is_last) if path.mask >> kind & 1]
    return state_behind(found[0]), found[0].events


def never(script, index, is_done):
    """A paper which shows that a command is never done, or never come to and not done; None if there is none."""
    chart = chart_of(script)
    check_index(index, len(script))
    states = states_of(chart)
    return None if does_happen(chart, states, (index, is_done)) else (NEVER, tuple(states))


def is_never(script, index, is_done, value):
    """Whether any value is such a paper."""
    chart = chart_of(script)
    check_index(index, len(script))
    if not isinstance(value, tuple) or len(value) != 2 or value[0] != NEVER or not isinstance(value[1], tuple):
        return False
    states = value[1]
    if not all([is_state(script, chart, state) for state in states]):
        return False
    known = {state: True for state in states}
    if len(known) < len(states) or state_at_first(chart) not in known or does_happen(chart, states, (index, is_done)):
        return False
    behind = [state_behind(path)
              for state in states for is_last in (True, False) for path in paths_in(chart, state, is_last)]
    return all([state is None or state in known for state in behind])


def is_state(script, chart, value):
    """Whether any value has the form of a state."""
    if not isinstance(value, tuple) or len(value) != 4:
        return False
    place, number, ranges, store = value
    if not is_place(script, place) or not is_integer(number) or not 0 <= number <= chart.numbering.greatest():
        return False
    return are_ranges(script, ranges) and is_store(script, chart, store)


def is_store(script, chart, value):
    if not isinstance(value, tuple) or len(value) > script.store:
        return False
    if chart.kept_test is None:
        return all([isinstance(entry, tuple) and entry == () for entry in value])
    return all([isinstance(entry, tuple) and len(entry) == 1 and isinstance(entry[0], bool) for entry in value])
