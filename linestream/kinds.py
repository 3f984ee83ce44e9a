"""The classes of lines by the cases of scripts, and what changes make of them.

A class is told by its index, several by a mask with a bit for each. A list of changes is told by a number, 0 for none.
"""

from linestream.changes import done_all
from linestream.classes import cases_of, classified, set_of_case
from linestream.linesets import is_endless_on, parted_on, result_on
from linestream.rows import some_lines

# Lines of a class that are looked at ahead of all others, as they mostly tell that changes do not do the same.
EXAMPLES = 4


class Kinds:
    """The classes by the cases of some scripts and by some more sets."""

    def __init__(self, scripts, more=()):
        # The lists of changes and the tests that cases name, each one once.
        self._lists = [[]]
        self._tests = []
        cases = {}
        for script in scripts:
            for changes, test in cases_of(script):
                cases[(self.number_of(changes), self.test_number(test))] = (changes, test)
        pairs = classified([set_of_case(cases[key]) for key in cases] + list(more))
        # The classes, and for each one what was asked of it.
        self.sets = [lines for lines, _ in pairs]
        self.firsts = [lines.least for lines in self.sets]
        self._masks = {}
        for at, key in enumerate(cases):
            self._masks[key] = sum([1 << kind for kind, (_, answers) in enumerate(pairs) if answers[at]])
        self._kinds = {}
        self._examples = {}
        self._entries = {}
        self._endless = {}

    def number_of(self, changes):
        """The number of a list of changes."""
        return place_among(changes, self._lists)

    def changes(self, number):
        """The list of changes with a number."""
        return self._lists[number]

    def test_number(self, test):
        return -1 if test is None else place_among(test, self._tests)

    def all_kinds(self):
        """The mask of all classes."""
        return (1 << len(self.sets)) - 1

    def mask_of_case(self, number, test):
        """The mask of the classes of which the case of a list of changes and a test holds."""
        return self._masks.get((number, self.test_number(test)), 0)

    def have_cases_of(self, script):
        """Whether the cases of a script are among those that part the classes."""
        return all([(self.number_of(changes), self.test_number(test)) in self._masks
                    for changes, test in cases_of(script)])

    def kind_of(self, line):
        """The class of a line."""
        if line not in self._kinds:
            self._kinds[line] = [line in lines for lines in self.sets].index(True)
        return self._kinds[line]

    def examples(self, kind):
        """Some lines of a class."""
        if kind not in self._examples:
            self._examples[kind] = some_lines(self.sets[kind].rows, EXAMPLES)
        return self._examples[kind]

    def results(self, kind, number):
        """What a list of changes makes of the examples."""
        return [done_all(self._lists[number], line) for line in self.examples(kind)]

    def entry(self, kind, number):
        """The one line that all lines of a class become by a list of changes. If there is none, a number below 0, the
        same one for lists that do the same to all lines of the class."""
        key = (kind, number)
        if key not in self._entries:
            self._entries[key] = self.new_entry(kind, number)
        return self._entries[key]

    def new_entry(self, kind, number):
        fixed = self.fixed(kind, number)
        if fixed is not None:
            return fixed
        for other in range(len(self._lists)):
            entry = self._entries.get((kind, other))
            if isinstance(entry, int) and self.do_the_same(kind, number, other):
                return entry
        return -1 - number

    def fixed(self, kind, number):
        """The one result that all lines of a class have, None if there is not just one."""
        results = self.results(kind, number)
        if results != results[:1] * len(results):
            return None
        if len(results) == 1:
            return results[0]
        return result_on(self._lists[number], self.sets[kind])

    def do_the_same(self, kind, number, other):
        """Whether two lists of changes have the same result for each line of a class."""
        return self.results(kind, number) == self.results(kind, other) and self.parting(kind, number, other) is None

    def parting(self, kind, number, other):
        """The first line of a class for which two lists of changes have unlike results, None if there is none."""
        return parted_on(self._lists[number], self._lists[other], self.sets[kind])

    def is_endless(self, kind, number):
        """Whether the results of a list of changes on a class are infinitely many."""
        key = (kind, number)
        if key not in self._endless:
            self._endless[key] = is_endless_on(self._lists[number], self.sets[kind])
        return self._endless[key]

    def lines_on(self, path):
        """The first lines of some classes."""
        return [self.firsts[kind] for kind in path]


def place_among(value, values):
    """The index of a value in a list; it is put at the end if it is not there."""
    for at, each in enumerate(values):
        if each == value:
            return at
    values.append(value)
    return len(values) - 1


def kinds_in(mask):
    """The classes of a mask, ascending."""
    return [kind for kind in range(mask.bit_length()) if mask >> kind & 1]


def least_kind(mask):
    """The first class of a mask that is not 0."""
    return (mask & -mask).bit_length() - 1
