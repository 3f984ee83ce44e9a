"""What a script does when a line is read, told by the class of the line.

A stand tells what matters of the past: a tuple (place, opened, coming, width, answers): the place and the ranges as in
checkpoints, the lines of Later that wait, how many lines are in the window, and for each line of the store () or, if
there is a Kept with a test, (whether the test holds of it,). The number of lines read stands beside it, not greater
than all numbers that matter.

Lines that are held, or told, are named by integers: those of the window from 0 on, those of the store from STORE on,
the line that is read from NEW on, by the Change commands that were done to it, a bit for each; told ones from TOLD on.
"""

from math import lcm

from linestream.bounds import changes_in, check_bounds_of, kept_tests, named_numbers, steps_in
from linestream.kinds import Kinds
from linestream.loops import addresses_in
from linestream.rounds import lines_of
from linestream.scripts import (
    Change, Changed, Count, Each, If, Kept, Later, Not, Number, Range, Skip, Tell)

STORE = 3
NEW = 6
TOLD = 10
# Choices of the Change commands of a script that keeps the bounds.
CHOICES = 4


class Numbering:
    """How numbers of lines matter for some scripts: up to the greatest one that is named, then by what is left when
    they are divided by the steps."""

    def __init__(self, scripts):
        addresses = [address for script in scripts for address in addresses_in(script)]
        self.far = max(named_numbers(addresses), default=0)
        self.cycle = 1
        for step in steps_in(addresses):
            self.cycle = lcm(self.cycle, step)

    def greatest(self):
        return self.far + self.cycle

    def behind(self, number):
        """The number behind one more line."""
        return number + 1 if number < self.far + self.cycle else self.far + 1

    def lessened(self, reads):
        """The number for so many lines."""
        return reads if reads <= self.far else self.far + 1 + (reads - self.far - 1) % self.cycle


class Path:
    """What is done behind the reading of a line, for all classes of a mask alike."""

    def __init__(self, mask, reads, is_last):
        self.mask = mask
        self.reads = reads
        self.is_last = is_last
        # The index of the command that is come to, and the Change commands that were done to the line.
        self.spot = 0
        self.choice = 0
        # As in a stand; the window, the store and what was printed as names of lines.
        self.place = 0
        self.opened = ()
        self.coming = ()
        self.seen = ()
        self.kept = ()
        self.answers = ()
        self.out = ()
        # Tuples (index, is_done), and the greatest number of lines in the store.
        self.events = ()
        self.most = 0
        # Whether the next line is read, whether the round has ended, and the script.
        self.is_done = False
        self.is_round = False
        self.is_over = False

    def fork(self, mask):
        """The same for other classes, to go on by itself."""
        other = Path(mask, self.reads, self.is_last)
        other.spot = self.spot
        other.choice = self.choice
        other.opened = self.opened
        other.coming = self.coming
        other.seen = self.seen
        other.kept = self.kept
        other.answers = self.answers
        other.out = self.out
        other.events = self.events
        other.most = self.most
        return other

    def stand(self):
        """The stand ahead of the next line."""
        return (self.place, self.opened, self.coming, len(self.seen), self.answers)

    def effect(self):
        """All that matters of it but the events."""
        return (self.is_over, self.is_round, self.stand(), self.seen, self.kept, self.out, self.most)

    def choices(self):
        """The choices of Change commands with which the line was printed, or is held."""
        names = [*self.out, *self.seen, *self.kept]
        return [choice for choice in range(CHOICES) if NEW + choice in names]


class Chart:
    """A script whose commands are asked for classes instead of lines."""

    def __init__(self, script, kinds, numbering):
        self._room = script.window
        self._shelf = script.store
        self._is_loud = not script.is_quiet
        self.kinds = kinds
        self.numbering = numbering
        self.lines_told = []
        changes = changes_in(script)
        # The number of the list of changes for each choice.
        self.lists = [kinds.number_of([change for at, change in enumerate(changes) if choice >> at & 1])
                      for choice in range(1 << len(changes))]
        self._slots = 0
        self._bit = 1
        self._steps = [self.compiled(command) for command in script.commands]
        self._opened = (0,) * self._slots
        tests = kept_tests(addresses_in(script))
        self.kept_test = tests[0] if tests else None
        self._kept_masks = self.masks_of_test(self.kept_test)
        self._paths = {}
        self._moves = {}

    def compiled(self, command):
        """A tuple (word, address, argument) for a command."""
        address = self.asked(command.at)
        argument = 0
        if isinstance(command, (Tell, Later)):
            argument = TOLD + self.told_number(command.line)
        if isinstance(command, Skip):
            argument = command.many
        if isinstance(command, Change):
            argument = self._bit
            self._bit = self._bit * 2
        return (command.__class__.__name__, address, argument)

    def told_number(self, line):
        if line not in self.lines_told:
            self.lines_told.append(line)
        return self.lines_told.index(line)

    def masks_of_test(self, test):
        """For each choice the classes of which a test holds behind its changes."""
        return [self.kinds.mask_of_case(number, test) for number in self.lists]

    def asked(self, address):
        """A tuple for an address: a word, and what it takes."""
        word = address.__class__.__name__
        if isinstance(address, Number):
            return (word, address.number)
        if isinstance(address, Each):
            return (word, address.step, address.start)
        if isinstance(address, If):
            return (word, self.masks_of_test(address.test))
        if isinstance(address, Changed):
            return ("If", [0] + self.masks_of_test(None)[1:])
        if isinstance(address, Kept):
            return (word, address.test is not None)
        if isinstance(address, Not):
            return (word, self.asked(address.address))
        if isinstance(address, Range):
            slot = self._slots
            self._slots += 1
            start = self.asked(address.start)
            stop = address.stop
            return (word, slot, start, ("Count", stop.number) if isinstance(stop, Count) else self.asked(stop))
        return (word,)

    def answer(self, line):
        """The answer for a line of the store."""
        return () if self.kept_test is None else (self.kept_test.holds(line),)

    def stand_of(self, runner):
        """The stand of a run of the script."""
        coming = tuple([TOLD + self.told_number(line) for line in lines_of(runner.coming)])
        answers = tuple([self.answer(line) for line in lines_of(runner.kept)])
        return (runner.place, tuple(runner.opened), coming, len(runner.seen), answers)

    def fixed_line(self, kind, choice):
        """The one line that all lines of a class become by a choice of changes, None if there is not just one."""
        entry = self.kinds.entry(kind, self.lists[choice])
        return entry if isinstance(entry, str) else None

    def beginning(self):
        """The stand ahead of the first line."""
        return (0, self._opened, (), 0, ())

    def paths(self, number, stand, is_last):
        """The paths behind the reading of a line in a stand, each with other classes."""
        key = (number, stand, is_last)
        if key not in self._paths:
            self._paths[key] = self.read(number, stand, is_last)
        return self._paths[key]

    def moves(self, number, stand, is_last):
        """The paths, but those that are equal up to their events in one."""
        key = (number, stand, is_last)
        if key not in self._moves:
            found = {}
            for path in self.read(number, stand, is_last):
                same = found.setdefault(path.effect(), path)
                same.mask = same.mask | path.mask
            self._moves[key] = list(found.values())
        return self._moves[key]

    def read(self, number, stand, is_last):
        place, opened, coming, width, answers = stand
        first = Path(self.kinds.all_kinds(), self.numbering.behind(number), is_last)
        first.spot = place
        first.opened = opened
        first.coming = coming
        first.seen = (tuple(range(width)) + (NEW,))[-self._room:]
        first.kept = tuple(range(STORE, STORE + len(answers)))
        first.answers = answers
        first.most = len(answers)
        found = []
        waiting = [first]
        while waiting:
            path = waiting.pop()
            self.go(path, waiting)
            found.append(path)
        return found

    def go(self, path, waiting):
        """Comes to the commands, up to the next reading; other paths for some of the classes are left in waiting."""
        while not path.is_done:
            if path.spot == len(self._steps):
                self.end_round(path, "")
                return
            word, address, argument = self._steps[path.spot]
            is_met = self.met(address, path, waiting)
            path.events = path.events + ((path.spot, is_met),)
            path.spot += 1
            if is_met:
                self.do(word, argument, path, waiting)

    def met(self, address, path, waiting):
        """Whether an address holds; asks it. The classes for which it is otherwise ask it again in a path of their
        own."""
        word = address[0]
        if word == "Any":
            return True
        if word == "Not":
            return not self.met(address[1], path, waiting)
        if word == "Range":
            return self.met_range(address, path, waiting)
        if word == "If":
            held = address[1][path.choice] & path.mask
            if held and held != path.mask:
                waiting.append(path.fork(path.mask & ~held))
                path.mask = held
            return held != 0
        if word == "Number":
            return path.reads == address[1]
        if word == "Each":
            return path.reads >= address[2] and (path.reads - address[2]) % address[1] == 0
        if word == "Kept":
            return path.kept != () and (not address[1] or path.answers[-1] == (True,))
        return path.is_last

    def met_range(self, address, path, waiting):
        _, slot, start, stop = address
        many = path.opened[slot]
        if many == 0 and not self.met(start, path, waiting):
            return False
        if stop[0] == "Count":
            value = (many + 1) % stop[1]
        elif stop[0] == "Number":
            value = 0 if stop[1] <= path.reads else 1
        else:
            value = 0 if many and self.met(stop, path, waiting) else 1
        path.opened = path.opened[:slot] + (value,) + path.opened[slot + 1:]
        return True

    def do(self, word, argument, path, waiting):
        """Does a command that is come to."""
        if word == "Change":
            path.choice = path.choice | argument
            path.seen = path.seen[:-1] + (NEW + path.choice,)
        elif word == "Print":
            path.out = path.out + path.seen
        elif word == "PrintFirst":
            path.out = path.out + path.seen[:1]
        elif word == "Tell":
            path.out = path.out + (argument,)
        elif word == "Later":
            path.coming = path.coming + (argument,)
        elif word == "Skip":
            path.spot += argument
        elif word == "Read" and not path.is_last:
            path.place = path.spot
            path.is_done = True
        elif word in ("Read", "Drop", "Slide", "Stop", "Leave"):
            self.end_round(path, word)
        else:
            self.do_with_store(word, path, waiting)

    def do_with_store(self, word, path, waiting):
        if word == "Keep":
            self.keep(path, waiting)
        elif word == "Put":
            path.out = path.out + path.kept
        elif word == "PutFirst":
            path.out = path.out + path.kept[:1]
        elif word == "Forget":
            path.kept = path.answers = ()
        else:
            path.kept, path.answers = path.kept[1:], path.answers[1:]

    def keep(self, path, waiting):
        if self._shelf == 0:
            return
        if self.kept_test is None:
            self.put_by(path, ())
            return
        held = self._kept_masks[path.choice] & path.mask
        if held and held != path.mask:
            other = path.fork(path.mask & ~held)
            self.put_by(other, (False,))
            waiting.append(other)
            path.mask = held
        self.put_by(path, (held != 0,))

    def put_by(self, path, answer):
        """Puts the line that was read into the store."""
        path.kept = (path.kept + (NEW + path.choice,))[-self._shelf:]
        path.answers = (path.answers + (answer,))[-self._shelf:]
        path.most = max(path.most, len(path.kept))

    def end_round(self, path, word):
        """Ends a round by a command, or behind the last one."""
        path.is_done = path.is_round = True
        path.is_over = path.is_last or word in ("Stop", "Leave")
        if word != "Leave":
            if self._is_loud and word not in ("Drop", "Slide"):
                path.out = path.out + path.seen
            path.out = path.out + path.coming
        path.coming = ()
        path.seen = path.seen[1:] if word == "Slide" else ()
        if path.is_over:
            path.opened = path.seen = path.kept = path.answers = ()


def fixed_lines(chart):
    """The function fixed_line of a chart, as it is handed to stages."""
    return lambda kind, choice: chart.fixed_line(kind, choice)


def chart_of(script, more=()):
    """The chart of a script, alone; raises Beyond, also for some more tests, and TooMany."""
    check_bounds_of(script, more)
    return Chart(script, Kinds([script]), Numbering([script]))
