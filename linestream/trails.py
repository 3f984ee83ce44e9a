"""Lines that are followed from the reading on: where they are held, and when they are printed.

A place of a trail is a tuple (number, stand, names): a stand of a chart behind so many lines, and the names of the held
lines that are the one that is followed.
"""

from linestream.charts import CHOICES, NEW, STORE
from linestream.kinds import least_kind
from linestream.search import Tree


def newest_names():
    """The names of the line that is being read, whatever changes are done to it."""
    return tuple(range(NEW, NEW + CHOICES))


def names_behind(path, names):
    """The names with which held lines go on, and those of lines in the window and in the store behind a path."""
    return tuple([at for at, name in enumerate(path.seen) if name in names]
                 + [STORE + at for at, name in enumerate(path.kept) if name in names])


def does_print(path, names):
    return any([name in names for name in path.out])


class Trails:
    """All ways that a line can go, from all that texts lead to."""

    def __init__(self, chart):
        self._chart = chart
        self._stands = Tree((0, chart.beginning()))
        # For each place: the one ahead of it, or the index of a stand, and the class of the line between them.
        self.ways = {}
        self._firsts = {}
        # For each place: those behind the next line, with a class of it; and a class with which the line is printed.
        self.onward = {}
        self.hits = {}
        # The classes of a text with as few lines as possible that prints the line that is just read.
        self.at_once = None
        self.begin()
        self.go_on()

    def begin(self):
        """Follows all lines up to the next reading."""
        nodes = self._stands.nodes
        newest = newest_names()
        at = 0
        while at < len(nodes):
            (number, stand), _, _, _ = nodes[at]
            for path in self._chart.moves(number, stand, True):
                if does_print(path, newest):
                    self.note([*self._stands.path(at), least_kind(path.mask)])
            for path in self._chart.moves(number, stand, False):
                kind = least_kind(path.mask)
                if does_print(path, newest):
                    self.note([*self._stands.path(at), kind, 0])
                if not path.is_over:
                    self._stands.meet((path.reads, path.stand()), at, kind)
                    place = (path.reads, path.stand(), names_behind(path, newest))
                    if place[2] != () and place not in self._firsts:
                        self._firsts[place] = (at, kind)
            at += 1

    def note(self, path):
        if self.at_once is None or len(path) < len(self.at_once):
            self.at_once = path

    def go_on(self):
        """Follows the lines to all places."""
        waiting = list(self._firsts)
        self.ways = {place: (None, 0) for place in waiting}
        at = 0
        while at < len(waiting):
            place = waiting[at]
            self.onward[place] = self.next_places(place)
            for further, kind in self.onward[place].items():
                if further not in self.ways:
                    self.ways[further] = (place, kind)
                    waiting.append(further)
            at += 1

    def next_places(self, place):
        """The places behind the next line, each with a class of it; notes whether the line is printed."""
        number, stand, names = place
        found = {}
        for is_last in (True, False):
            for path in self._chart.moves(number, stand, is_last):
                kind = least_kind(path.mask)
                if does_print(path, names) and place not in self.hits:
                    self.hits[place] = [kind] if is_last else [kind, 0]
                further = () if path.is_over else names_behind(path, names)
                if further != ():
                    found.setdefault((path.reads, path.stand(), further), kind)
        return found

    def first_places(self):
        """The places just behind the reading of a line, each with the classes of a text with as few lines as possible
        that leads there."""
        return {place: [*self._stands.path(at), kind] for place, (at, kind) in self._firsts.items()}

    def path(self, place):
        """The classes of a text that leads to a place."""
        found = []
        while self.ways[place][0] is not None:
            place, kind = self.ways[place]
            found.append(kind)
        at, kind = self._firsts[place]
        return [*self._stands.path(at), kind, *found[::-1]]

    def useful(self):
        """For all places from which the line can be printed, those behind the next line from which it still can."""
        sources = {}
        for place, behind in self.onward.items():
            for further in behind:
                sources.setdefault(further, []).append(place)
        waiting = list(self.hits)
        alive = {place: True for place in waiting}
        while waiting:
            place = waiting.pop()
            for source in sources.get(place, ()):
                if source not in alive:
                    alive[source] = True
                    waiting.append(source)
        return {place: {each: kind for each, kind in self.onward[place].items() if each in alive} for place in alive}
