"""Scripts and texts that are made by chance, the same ones each time."""

import random

from linestream.changes import Behind, Every, First, Front, Swap
from linestream.conditions import Begins, Both, Ends, Fails, Has, Is, Only
from linestream.scripts import (
    Any, Change, Changed, Count, Drop, Each, Forget, ForgetFirst, If, Keep, Kept, Last, Later, Leave, Not, Number, Print,
    PrintFirst, Put, PutFirst, Range, Read, Script, Skip, Slide, Stop, Tell)

TESTS = [Has("a"), Begins("b"), Ends("a"), Is("a"), Is(""), Only("a"), Fails(Has("b")), Both(Has("a"), Has("b"))]
CHANGES = [First("a", "b"), Every("b", ""), Swap("ab", "ba"), Swap("a", "a"), First("b", "a"), Every("ab", "c")]
# These make lines longer, so they are not done over and over.
LONGER = [Front("a"), Behind("b")]
PLAIN = [Print, PrintFirst, Keep, Keep, Put, PutFirst, Forget, ForgetFirst, Read, Read, Drop, Slide, Slide]


class Chance:
    """Makes scripts and texts; far is the greatest number that a Number names."""

    def __init__(self, seed, far=6, most_ranges=12):
        self.random = random.Random(seed)
        self.far, self.most_ranges = far, most_ranges

    def number(self):
        return self.random.randint(1, self.far)

    def simple(self):
        kind = self.random.randrange(9)
        if kind == 0:
            return Number(self.number())
        if kind == 1:
            return Each(self.random.randint(1, 3), self.number())
        if kind == 2:
            return Last()
        if kind in (3, 4):
            return If(self.random.choice(TESTS))
        if kind == 5:
            return Changed()
        if kind == 6:
            return Kept(self.random.choice([None, *TESTS]))
        if kind == 7:
            return Not(self.simple())
        return Any()

    def address(self):
        kind = self.random.randrange(10)
        if kind < 3:
            return Any()
        if kind < 7 or self.ranges == self.most_ranges:
            return self.simple()
        self.ranges += 1
        stop = self.random.choice([Count(self.random.randint(1, 3)), self.simple(), self.simple()])
        found = Range(self.simple(), stop)
        return Not(found) if kind == 9 else found

    def command(self, behind):
        kind = self.random.randrange(9)
        at = self.address()
        if kind == 0:
            return Change(self.random.choice(CHANGES + LONGER), at=at)
        if kind == 1:
            return Change(self.random.choice(CHANGES), at=at)
        if kind == 2:
            return self.random.choice([Tell, Later])(self.random.choice(["x", "", "a"]), at=at)
        if kind == 3 and behind:
            return Skip(self.random.randint(1, behind), at=at)
        if kind == 4 and self.random.randrange(4) == 0:
            return self.random.choice([Stop, Leave])(at=at)
        return self.random.choice(PLAIN)(at=at)

    def script(self, most=8):
        self.ranges = 0
        many = self.random.randint(0, most)
        commands = [self.command(many - 1 - at) for at in range(many)]
        return Script(*commands, window=self.random.randint(1, 3), store=self.random.randint(0, 3),
                      is_quiet=self.random.random() < 0.4)

    def line(self):
        return "".join(self.random.choice("abc") for _ in range(self.random.randint(0, 2)))

    def text(self, most=9):
        return [self.line() for _ in range(self.random.randint(0, most))]

    def blocks(self, most=3, times=40):
        """Blocks of a long text."""
        return [([self.line() for _ in range(self.random.randint(1, 4))], self.random.randint(1, times))
                for _ in range(self.random.randint(0, most))]
