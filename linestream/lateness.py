"""How late lines are printed, what is certain to be printed, and what must be kept for that."""

from linestream.charts import chart_of, fixed_lines
from linestream.joint import begun
from linestream.kinds import least_kind
from linestream.lines import check_text
from linestream.needs import Needs
from linestream.running import run
from linestream.rounds import lines_of
from linestream.search import greatest
from linestream.stages import Stage, least_match
from linestream.trails import Trails
from linestream.values import common


def late(script):
    """None if only told lines are printed; otherwise the greatest number by which a printed line is late, and a text;
    if there is none, None and the lines ahead of a loop, in it and behind it."""
    chart = chart_of(script)
    trails = Trails(chart)
    useful = trails.useful()
    if not useful:
        return None if trails.at_once is None else (0, chart.kinds.lines_on(trails.at_once))
    loop = in_loops(useful)
    if loop:
        return (None, tuple([chart.kinds.lines_on(path) for path in loop_text(trails, useful, loop)]))
    many, path = latest(trails, useful)
    return many, chart.kinds.lines_on(path)


def in_loops(useful):
    """The useful places from which one comes to a loop."""
    many = {place: len(behind) for place, behind in useful.items()}
    sources = {}
    for place, behind in useful.items():
        for further in behind:
            sources.setdefault(further, []).append(place)
    waiting = [place for place in many if many[place] == 0]
    left = {place: True for place in many}
    while waiting:
        place = waiting.pop()
        del left[place]
        for source in sources.get(place, ()):
            many[source] -= 1
            if many[source] == 0:
                waiting.append(source)
    return left


def loop_text(trails, useful, left):
    """The classes of lines ahead of a loop, in it, and behind it up to where the line is printed."""
    place = list(left)[0]
    places = []
    while place not in places:
        places.append(place)
        place = [each for each in useful[place] if each in left][0]
    around = places[places.index(place):]
    loop = [useful[each][further] for each, further in zip(around, [*around[1:], place])]
    return trails.path(place), loop, way_to_print(trails, useful, place)


def way_to_print(trails, useful, place):
    """The classes of lines up to one with which the line at a place is printed."""
    ways = {place: []}
    waiting = [place]
    at = 0
    while place not in trails.hits:
        for further, kind in useful[place].items():
            if further not in ways:
                ways[further] = [*ways[place], kind]
                waiting.append(further)
        at += 1
        place = waiting[at]
    return ways[place] + trails.hits[place]


def latest(trails, useful):
    """The greatest number by which a line is late, where there are no loops, and the classes of a text."""
    # In each layer the places stand in the order of their texts, shorter ones first.
    layer = {place: path for place, path in trails.first_places().items() if place in useful}
    number = 0
    found = []
    while layer:
        number += 1
        found = [path + trails.hits[place] for place, path in layer.items() if place in trails.hits] or found
        behind = {}
        for place, path in layer.items():
            for further, kind in useful[place].items():
                behind.setdefault(further, [*path, kind])
        layer = behind
    return number, min(found, key=len)


def sure(script, text):
    """The lines that are certain to be printed when the lines of a text have been read."""
    chart = chart_of(script)
    check_text(text)
    whole = run(script, text)
    if not text:
        return whole
    runner = begun(script, text)
    printed = list(lines_of(runner.out))
    many = common(printed, whole)
    if many < len(printed) or runner.is_over:
        return whole[:many]
    held = lines_of([*runner.seen, *runner.kept])
    state = (chart.numbering.lessened(len(text)), chart.stand_of(runner), held)
    stage = Stage(chart, chart.lines_told)
    return whole[:many + least_match(stage, state, whole[many:], fixed_lines(chart))]


def keeps(script):
    """The greatest number of lines that the window and the store hold together just before a line is read, and a text
    that ends with this line."""
    chart = chart_of(script)

    def steps(state, is_last):
        if is_last:
            _, _, _, width, answers = state[1]
            return [(width + len(answers), 0, None)]
        return [(0, least_kind(each.mask), (each.reads, each.stand()))
                for each in chart.moves(*state, False) if not each.is_over]
    many, path = greatest((0, chart.beginning()), steps)
    return many, chart.kinds.lines_on(path)


def must_keep(script):
    """The greatest number of lines that are needed after a text, and a text after which so many are."""
    needs = Needs(chart_of(script))
    many, path = needs.greatest()
    return many, needs.chart.kinds.lines_on(path)
