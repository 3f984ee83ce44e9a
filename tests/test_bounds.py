"""[90]: the bounds of questions for every text, and the order of their errors."""

import unittest
from itertools import product

from linestream.changes import Behind, Every, First, Front, Swap
from linestream.classes import cases_of, classes
from linestream.closing import closed_set, is_closed_set
from linestream.conditions import Begins, Both, Either, Ends, Fails, Has, Is, Only
from linestream.errors import Beyond, InvalidText, OutOfRange, TooMany
from linestream.happen import (
    all_printed, bare, most_kept, most_printed, passed, reached, silent, steady, unused)
from linestream.lateness import keeps, late, must_keep, sure
from linestream.likeness import agree, alike, needless, outlook, swappable, swapped, varied, without
from linestream.nevers import first_state, is_never, never, step
from linestream.scripts import (
    Any, Change, Changed, Count, Each, If, Keep, Kept, Last, Not, Number, Print, Put, Range, Read, Script, Skip, Tell)
from linestream.sources import selection, source
from linestream.texts import write_script

FOUND = {}
NO_INDEX = "no index"
NO_TEXT = "no text"

# Questions about a script; those that take more get what is wrong, so that what is raised comes ahead of all that.
ONE = {
    "reached": lambda script: reached(script, NO_INDEX), "passed": lambda script: passed(script, NO_INDEX), "unused": unused,
    "steady": steady, "bare": bare, "silent": silent, "most_printed": most_printed, "most_kept": most_kept,
    "never": lambda script: never(script, NO_INDEX, True),
    "is_never": lambda script: is_never(script, NO_INDEX, False, None), "first_state": first_state,
    "step": lambda script: step(script, (0, 0, (0,) * len(script.ranges), ()), 0, False), "needless": needless, "swappable": swappable,
    "late": late, "sure": lambda script: sure(script, NO_TEXT), "must_keep": must_keep, "keeps": keeps, "selection": selection,
    "source": lambda script: source(script, NO_TEXT),
}
# Questions about two scripts.
TWO = {
    "agree": lambda one, other: agree(one, other, NO_TEXT), "varied": lambda one, other: varied(one, other, NO_TEXT), "alike": alike,
    "outlook": lambda one, other: outlook(one, other, NO_TEXT), "closed_set": closed_set,
    "is_closed_set": lambda one, other: is_closed_set(one, other, None),
}

A, B, C, D = Has("a"), Has("b"), Begins("a"), Ends("b")
# For each bound scripts that just keep it, and scripts that just do not.
BOUNDS = {
    "commands": ([Script(*[Print()] * 8)], [Script(*[Print()] * 9)]),
    "room": ([Script(window=1, store=2), Script(window=3), Script(window=2, store=1)], [Script(window=1, store=3), Script(window=2, store=2), Script(window=3, store=1)]),
    "ranges": ([Script(Print(at=Not(Range(Any(), Any()))))], [Script(Print(at=Range(Any(), Any())), Print(at=Range(Any(), Any()))), Script(Print(at=Range(Any(), Any())), Print(at=Not(Range(Any(), Count(9)))))]),
    "tests": ([Script(Print(at=If(Both(A, Either(B, C)))))], [Script(Print(at=If(Both(A, Either(B, C)))), Put(at=Kept(D))), Script(*[Print(at=If(A))] * 4), Script(Print(at=Range(If(Both(A, B)), If(Both(Fails(A), B)))))]),
    "kept": ([Script(Print(at=Kept(A)), Print(at=Kept()), Print(at=Not(Kept())))], [Script(Print(at=Kept(A)), Print(at=Not(Kept(A)))), Script(Print(at=Range(Kept(A), Kept(A))))]),
    "changes": ([Script(Change(Front("a")), Change(Front("a")))], [Script(*[Change(Front("a"))] * 3)]),
    "words": ([Script(Print(at=If(Only("abc"))), Change(Swap("abc", "bca")), Change(First("ab", "ab"))), Script(Print(at=If(Is("ab"))), Change(Behind("ab")))],
              [Script(Print(at=If(Has("abc")))), Script(Print(at=If(Begins("abc")))), Script(Print(at=If(Ends("abc")))), Script(Print(at=If(Is("abc")))), Script(Print(at=If(Only("abcd")))),
               Script(Print(at=Kept(Fails(Is("abc"))))), Script(Change(First("abc", ""))), Script(Change(First("a", "abc"))), Script(Change(Every("abc", "a"))), Script(Change(Every("a", "abc"))),
               Script(Change(Front("abc"))), Script(Change(Behind("abc"))), Script(Change(Swap("abcd", "abcd")))]),
    "number": ([Script(Print(at=Number(3)), Print(at=Each(3, 3)))], [Script(Print(at=Number(4))), Script(Print(at=Each(1, 4))), Script(Print(at=Range(Any(), Number(4)))), Script(Print(at=Not(Each(9, 10 ** 40))))]),
    "step": ([Script(Print(at=Each(3, 1)))], [Script(Print(at=Each(4, 1))), Script(Print(at=Range(Each(4, 1), Any())))]),
    "count": ([Script(Print(at=Range(Any(), Count(3))))], [Script(Print(at=Range(Any(), Count(4)))), Script(Print(at=Not(Range(Any(), Count(10 ** 40)))))]),
}
WORDS = list(BOUNDS)


def scripts_by_classes():
    """Scripts by how many classes they have; 33 for more than 32."""
    if not FOUND:
        changes = [Swap("abc", "bca"), First("a", "b"), Front("a"), Behind("b"), First("b", "ca"), Every("b", "")]
        groups = [[Is("ab"), Is("bc"), B], [A, Begins("b"), Ends("c")], [Is("ab"), Is("ca"), Is("")],
                  [Has("ab"), Ends("a"), Begins("b")], [Only("ab"), Begins("a"), Ends("a")]]
        for one, other, tests in product(changes, changes, groups):
            script = Script(Change(one), Change(other), *[Print(at=If(test)) for test in tests])
            try:
                many = len(classes(cases_of(script)))
            except TooMany:
                many = 33
            FOUND.setdefault(many, []).append(script)
    return FOUND


class BoundsTest(unittest.TestCase):
    def raised(self, ask, *scripts):
        """The bound or the limit that a question raises, None if it raises none."""
        try:
            ask(*scripts)
        except Beyond as error:
            return error.bound
        except TooMany as error:
            return error.limit
        except (OutOfRange, InvalidText) as error:
            self.assertIn(error.value, (NO_INDEX, NO_TEXT))
        return None

    def test_each_bound_for_each_question(self):
        plain = Script()
        for bound, (kept, broken) in BOUNDS.items():
            for script in kept:
                for name, ask in ONE.items():
                    self.assertEqual((name, bound, self.raised(ask, script)), (name, bound, None))
                for name, ask in TWO.items():
                    self.assertEqual((name, self.raised(ask, script, plain), self.raised(ask, plain, script)), (name, None, None))
            for script in broken:
                for name, ask in ONE.items():
                    self.assertEqual((name, self.raised(ask, script)), (name, bound))
                for name, ask in TWO.items():
                    self.assertEqual((name, self.raised(ask, script, plain), self.raised(ask, plain, script)), (name, bound, bound))

    def test_two_bounds_at_once(self):
        for at, first in enumerate(WORDS):
            for second in WORDS[at + 1:]:
                one, other = BOUNDS[first][1][0], BOUNDS[second][1][0]
                both = Script(*one.commands, *other.commands[:12 - len(one)], window=max(one.window, other.window), store=max(one.store, other.store))
                self.assertEqual([self.raised(ask, both) for ask in (late, bare, needless)], [first] * 3)
                for name, ask in TWO.items():
                    # Those of one script, then those of the other one.
                    self.assertEqual((name, self.raised(ask, one, other), self.raised(ask, other, one)), (name, first, second))

    def test_32_and_33_classes(self):
        found = scripts_by_classes()
        self.assertTrue(found[33])
        just = max(many for many in found if many < 33)
        self.assertEqual(just, 32)
        for script in found[33][:3]:
            for name, ask in ONE.items():
                self.assertEqual((name, self.raised(ask, script)), (name, 32))
            for name, ask in TWO.items():
                self.assertEqual((name, self.raised(ask, script, Script()), self.raised(ask, Script(), script)), (name, 32, 32))
        for name, ask in ONE.items():
            if name != "swappable":
                self.assertEqual((name, self.raised(ask, found[just][0])), (name, None))
        for name, ask in TWO.items():
            self.assertEqual((name, self.raised(ask, found[just][0], found[just][0])), (name, None))

    def test_classes_of_both_together(self):
        found = scripts_by_classes()
        some = [scripts[0] for many, scripts in sorted(found.items()) if many < 33]
        told = {True: 0, False: 0}
        for one in some:
            for other in some:
                try:
                    classes(cases_of(one) + cases_of(other))
                    is_fine = True
                except TooMany:
                    is_fine = False
                told[is_fine] += 1
                self.assertEqual(self.raised(TWO["agree"], one, other), None if is_fine else 32)
        self.assertTrue(told[True] > 5 and told[False] > 5)
        many = [pair for pair in ((one, other) for one in some for other in some) if self.raised(TWO["agree"], *pair) == 32]
        for name, ask in TWO.items():
            self.assertEqual((name, self.raised(ask, *many[0])), (name, 32))

    def test_beyond_comes_ahead_of_too_many(self):
        script = scripts_by_classes()[33][0]
        far = Script(*script.commands, Print(at=Range(Any(), Count(4))))
        for name, ask in ONE.items():
            self.assertEqual((name, self.raised(ask, far)), (name, "count"))
        for name, ask in TWO.items():
            self.assertEqual((name, self.raised(ask, script, BOUNDS["step"][1][0])), (name, "step"))

    def test_what_comes_behind_them(self):
        for name in ("reached", "passed", "never", "is_never"):
            with self.assertRaises(OutOfRange) as caught:
                ONE[name](Script(Print()))
            self.assertEqual(caught.exception.value, NO_INDEX)
        for ask in (ONE["sure"], ONE["source"], lambda script: TWO["agree"](script, script), lambda script: TWO["varied"](script, script), lambda script: TWO["outlook"](script, script)):
            with self.assertRaises(InvalidText) as caught:
                ask(Script(Print()))
            self.assertEqual(caught.exception.value, NO_TEXT)

    def test_tests_in_all_places(self):
        for script in (Script(Print(at=If(A)), Read(at=Not(If(B))), Keep(at=Range(If(C), Kept(D)))), Script(*[Skip(1, at=If(A))] * 4, Print()),
                       Script(Change(Front("a"), at=If(A)), Tell("abc", at=Not(Not(If(Fails(Both(B, C)))))), Print(at=Range(Changed(), If(D))))):
            self.assertEqual(self.raised(late, script), "tests")
        self.assertIsNone(self.raised(late, Script(Tell("a long line that is told"), Print(at=Last()))))

    def test_all_printed(self):
        def ask(script):
            return all_printed(script, Fails(Fails(Only(""))))
        for bound, (kept, broken) in BOUNDS.items():
            for script in kept:
                self.assertEqual(self.raised(ask, script), "tests" if bound == "tests" else None)
            for script in broken:
                self.assertEqual(self.raised(ask, script), bound)
        # The test parts no classes.
        swap, first = Change(Swap("abc", "bca")), Change(First("a", "b"))
        tests = [Print(at=If(Has("ab"))), Print(at=If(Ends("a"))), Print(at=Changed())]
        self.assertEqual([self.raised(ask, Script(swap, swap, *tests)), self.raised(ask, Script(swap, first, *tests))], [None, 32])
        self.assertEqual(len(classes(cases_of(Script(swap, swap, *tests)))), 32)
        self.assertEqual(self.raised(lambda script: all_printed(script, Is("c")), Script(swap, swap, *tests)), None)
        self.assertEqual(self.raised(lambda script: all_printed(script, Is("ccc")), Script(swap, first, *tests)), "words")
        self.assertEqual(self.raised(lambda script: all_printed(script, Both(A, B)), Script(swap, first, *tests)), "tests")

    def test_no_bounds_for_others(self):
        for _, broken in BOUNDS.values():
            for script in broken:
                self.assertTrue(write_script(script))
                if len(script):
                    self.assertIsInstance(without(script, 0), Script)
                if len(script) > 1:
                    self.assertIsInstance(swapped(script, 0), Script)


if __name__ == "__main__":
    unittest.main()
