"""Runs on long texts: where a run stands comes again while blocks repeat, so what is done then is not done line by
line."""

from math import lcm

from linestream.blocks import cut, length_of, line_at_index
from linestream.errors import Beyond
from linestream.rounds import Runner
from linestream.scripts import Count, Each, Number, addresses_of

MOST_RANGES = 2
MOST_STEP = 6
MOST_COUNT = 6
# Lines that are held go to places further ahead, if they move at all. So behind so many loops each one is either held
# for ever, or has been read as many loops ago as the one that stands there one loop later.
SETTLING = 3
# Two loops more are gone through to see which numbers grow, so only what comes behind them can be left out.
LOOPS_AT_LEAST = 6


def addresses_in(script):
    """All addresses of a script, in order."""
    return [address for command in script.commands for address in addresses_of(command.at)]


def check_bounds(script):
    """Raises Beyond for a script that long texts are not for."""
    if len(script.ranges) > MOST_RANGES:
        raise Beyond("ranges")
    if [each for each in addresses_in(script) if isinstance(each, Each) and each.step > MOST_STEP]:
        raise Beyond("step")
    if [each for each in script.ranges if isinstance(each.stop, Count) and each.stop.number > MOST_COUNT]:
        raise Beyond("count")


class Pace:
    """How numbers of lines matter: as those that a Number or the start of an Each names, and by what is left when they
    are divided by the steps."""

    def __init__(self, script):
        found = addresses_in(script)
        self.named = [each.number for each in found if isinstance(each, Number)]
        self.named.extend([each.start for each in found if isinstance(each, Each)])
        self.cycle = 1
        for each in found:
            if isinstance(each, Each):
                self.cycle = lcm(self.cycle, each.step)

    def free(self, reads, many, left):
        """How many of the passes that are left, each over so many lines, come ahead of the next named number."""
        ahead = [number for number in self.named if number > reads]
        return min(left, (min(ahead) - 1 - reads) // many) if ahead else left


class Course:
    """A run on a long text, kept in parts.

    A part is a tuple (entries, many, tally): what is printed, so many times one behind another, and how often each
    command is done in one of these passes. An entry is a tuple (line, number, changes, growth): number and changes as a
    Runner tells them, in the first pass; in each further one the number grows.
    """

    def __init__(self, script):
        self._pace = Pace(script)
        self.runner = Runner(script)
        self._parts = []

    def take(self):
        """What was printed and done since this was called."""
        tally = [0] * len(self.runner.slots)
        for index in self.runner.take_did():
            tally[index] += 1
        return self.runner.take_out(), tally

    def write_down(self):
        out, tally = self.take()
        self._parts.append(([(*entry, 0) for entry in out], 1, tally))

    def go_through(self, blocks):
        """Reads the lines of blocks, none of them as the last one."""
        for lines, times in blocks:
            self.go_on(lines, times)

    def go_on(self, lines, times):
        met = {}
        left = times
        while left > 0 and not self.runner.is_over:
            free = self._pace.free(self.runner.reads, len(lines), left)
            key = (self.runner.reads % self._pace.cycle, self.runner.stand())
            passes = met.get(key, left) - left
            if free == 0:
                met = {}
            elif passes == 0:
                met[key] = left
            elif free // passes >= LOOPS_AT_LEAST:
                self.repeat(lines, passes, free // passes)
                left -= free // passes * passes
                met = {}
                continue
            self.read_all(lines, 1)
            left -= 1

    def read_all(self, lines, times):
        for _ in range(times):
            for line in lines:
                if not self.runner.is_over:
                    self.runner.read(line, False)

    def repeat(self, lines, passes, loops):
        """Goes so many times through a loop of passes, behind which the run stands where it stood ahead of it."""
        self.read_all(lines, passes * SETTLING)
        self.write_down()
        self.read_all(lines, passes)
        before, tally = self.take()
        numbers = self.runner.numbers()
        self.read_all(lines, passes)
        behind, _ = self.take()
        growths = [now - then for then, now in zip(numbers, self.runner.numbers())]
        many = loops - SETTLING
        self._parts.append((grown(before, behind), many, tally))
        # Two of these loops have been gone through.
        self.runner.skip((many - 2) * passes * len(lines), [growth * (many - 2) for growth in growths])

    def read_last(self, line):
        if not self.runner.is_over:
            self.runner.read(line, True)

    def printed_blocks(self):
        blocks = [(tuple([entry[0] for entry in entries]), many) for entries, many, _ in self._parts]
        return tuple([(lines, many) for lines, many in blocks if lines])

    def totals(self):
        tallies = [[many * times for times in tally] for _, many, tally in self._parts]
        return [sum(column) for column in zip(*tallies)]

    def origin(self, index):
        """The origin of the printed line with this index."""
        for entries, many, _ in self._parts:
            if index < len(entries) * many:
                _, number, changes, growth = entries[index % len(entries)]
                return (number + growth * (index // len(entries)), changes)
            index -= len(entries) * many
        return None


def grown(before, behind):
    """The entries of a pass, told by what it and the next one have printed."""
    return [(line, number, changes, later[1] - number) for (line, number, changes), later in zip(before, behind)]


def course_of(script, blocks):
    """The run of a script on a long text; raises Beyond."""
    check_bounds(script)
    course = Course(script)
    end = length_of(blocks)
    if end > 0:
        course.go_through(cut(blocks, 0, end - 1))
        course.read_last(line_at_index(blocks, end - 1))
    course.write_down()
    return course
