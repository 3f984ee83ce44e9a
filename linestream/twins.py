"""Two runs of a script beside each other on a long text."""

from linestream.blocks import cut, length_of, line_at_index
from linestream.loops import Course, Pace


class Twins:
    """Two runners of a script that have read equally many lines."""

    def __init__(self, script, first, second):
        self._pace = Pace(script)
        self._runners = [first, second]
        self.reads = first.reads

    def are_alike(self):
        return self._runners[0].stand() == self._runners[1].stand()

    def read_both(self, line, other):
        """Reads a line with the first one, another one with the second one, none of them as the last one."""
        for runner, own in zip(self._runners, (line, other)):
            if not runner.is_over:
                runner.read(own, False)
                runner.take_out()
                runner.take_did()
        self.reads += 1

    def leave_out(self, many):
        """Takes so many lines as read, behind which both stand where they stand."""
        for runner in self._runners:
            runner.reads += many
        self.reads += many

    def get_alike(self, lines, times):
        """Reads lines so many times, up to where the runners are alike; whether they are."""
        met = {}
        left = times
        while left > 0:
            free = self._pace.free(self.reads, len(lines), left)
            key = (self.reads % self._pace.cycle, *[runner.stand() for runner in self._runners])
            passes = met.get(key, left) - left
            if free == 0:
                met = {}
            elif passes == 0:
                met[key] = left
            elif free >= passes:
                self.leave_out(free // passes * passes * len(lines))
                left -= free // passes * passes
                met = {}
                continue
            for line in lines:
                self.read_both(line, line)
                if self.are_alike():
                    return True
            left -= 1
        return False


def settled_at(script, blocks, number, line):
    """The least number from this one on such that a run, fed up to there, stands where another one does, to which this
    line was fed in the place of the one with the first number; None if there is none."""
    course = Course(script)
    course.go_through(cut(blocks, 0, number - 1))
    first = course.runner
    own = line_at_index(blocks, number - 1)
    if first.is_over or own == line:
        return number
    end = length_of(blocks)
    if number == end:
        return None
    twins = Twins(script, first, first.twin())
    twins.read_both(own, line)
    if twins.are_alike():
        return number + 1
    for lines, times in cut(blocks, number, end - 1):
        if twins.get_alike(lines, times):
            return twins.reads + 1
    return None
