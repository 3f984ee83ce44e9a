"""Scripts within the bounds of questions, made by chance, the same ones each time; and what such questions are held
beside: all texts of few lines."""

import random
from itertools import product

from linestream.changes import Behind, Every, First, Front, Swap
from linestream.classes import cases_of, classes
from linestream.conditions import Begins, Both, Either, Ends, Fails, Has, Is, Only
from linestream.errors import TooMany
from linestream.rows import some_lines
from linestream.scripts import (
    Any, Change, Changed, Count, Drop, Each, Forget, ForgetFirst, If, Keep, Kept, Last, Later, Leave, Not, Number, Print,
    PrintFirst, Put, PutFirst, Range, Read, Script, Skip, Slide, Stop, Tell)

WORDS = ["a", "b", "ab", "ba", "aa"]


class Within:
    """Makes scripts that keep and put lines by all kinds of addresses, so that much can happen."""

    def __init__(self, seed, tests=3, changes=2, most=8):
        self.random = random.Random(seed)
        self.most_tests, self.most_changes, self.most = tests, changes, most

    def word(self):
        return self.random.choice(WORDS)

    def simple_test(self):
        self.tests -= 1
        kind = self.random.randrange(8)
        if kind < 3:
            return [Has, Begins, Ends][kind](self.word())
        if kind < 7:
            return Is(self.random.choice(["", *WORDS]))
        return Only(self.random.choice(["", "a", "ab", "b"]))

    def one_test(self):
        test = self.simple_test()
        return Fails(test) if self.random.random() < .25 else test

    def test(self):
        if self.tests > 1 and self.random.random() < .15:
            return self.random.choice([Both, Either])(self.one_test(), self.one_test())
        return self.one_test()

    def number(self):
        return self.random.randint(1, 3)

    def kept(self):
        if self.has_kept or not self.tests:
            return self.random.choice([Kept(), Not(Kept())])
        self.has_kept = True
        return Kept(self.test())

    def address(self):
        kind = self.random.randrange(13)
        if kind < 4 and self.tests:
            return If(self.test())
        if kind == 4:
            return Last()
        if kind == 5:
            return Not(Last())
        if kind == 6:
            return Each(self.number(), self.number())
        if kind == 7:
            return Number(self.number())
        if kind == 8:
            return self.kept()
        if kind == 9:
            return self.random.choice([Changed(), Not(Changed())])
        if kind == 10 and not self.has_range:
            self.has_range = True
            start = self.address()
            found = Range(start, self.random.choice([Count(self.number()), self.address()]))
            return Not(found) if self.random.random() < .2 else found
        return Not(Number(self.number()))

    def change(self):
        kind = self.random.randrange(7)
        if kind < 4:
            return [First, Every][kind % 2](self.word(), self.random.choice(["", "a", "b", "ab"]))
        if kind == 4:
            return Swap(*self.random.choice([("ab", "ba"), ("a", "b"), ("a", "a"), ("abc", "bca")]))
        return [Front, Behind][kind - 5](self.random.choice(["a", "b", "ab"]))

    def put_in(self, command):
        self.commands.insert(self.random.randint(0, len(self.commands)), command)

    def perhaps(self, chance, kinds, *arguments):
        if self.random.random() < chance:
            self.put_in(self.random.choice(kinds)(*arguments, at=self.address()))

    def script(self):
        choice = self.random.choice
        self.tests, self.has_kept, self.has_range, self.commands = self.most_tests, False, False, []
        window, store = choice([(1, 1), (1, 2), (2, 1), (1, 2), (2, 1), (3, 0), (2, 0), (1, 0)])
        if store:
            for _ in range(self.random.randint(1, 2)):
                self.put_in(Keep(at=choice([Any(), self.address()])))
                self.put_in(choice([Put, Put, PutFirst])(at=self.address()))
            self.perhaps(.5, [Forget, ForgetFirst])
        if window > 1 or self.random.random() < .1:
            for _ in range(self.random.randint(1, 2)):
                self.put_in(choice([Slide, Read])(at=self.address()))
            self.perhaps(.5, [Print, PrintFirst])
        for _ in range(self.most_changes):
            if self.random.random() < .5:
                self.put_in(Change(self.change(), at=choice([Any(), self.address()])))
        self.perhaps(.4, [Drop])
        self.perhaps(.3, [Tell, Later], choice(["a", "", "b"]))
        self.perhaps(.15, [Stop, Leave])
        self.commands = self.commands[:self.most]
        if len(self.commands) > 1 and self.random.random() < .25:
            at = self.random.randrange(len(self.commands) - 1)
            self.commands[at] = Skip(self.random.randint(1, len(self.commands) - at - 1), at=self.address())
        return Script(*self.commands, window=window, store=store, is_quiet=self.random.random() < .5)


def made(seeds, **limits):
    """Tuples (seed, script) whose scripts have few enough classes."""
    found = []
    for seed in seeds:
        script = Within(seed, **limits).script()
        try:
            classes(cases_of(script))
        except TooMany:
            continue
        found.append((seed, script))
    return found


def first_lines(*scripts):
    """The first line of each class of scripts together."""
    return [lines.least for lines in classes([case for script in scripts for case in cases_of(script)])]


def few_lines(many, *scripts):
    """Some lines of each class of scripts together."""
    found = classes([case for script in scripts for case in cases_of(script)])
    return [line for lines in found for line in some_lines(lines.rows, many)]


def texts_of(lines, most, cap=1200):
    """All texts of few lines, shorter ones first: of at most so many lines, and not too many of one length."""
    found = []
    for many in range(most + 1):
        if len(lines) ** many <= cap:
            found += [list(text) for text in product(lines, repeat=many)]
    return found
