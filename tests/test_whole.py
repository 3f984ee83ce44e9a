"""Over the whole program: [2], [4], and what its parts tell of the same scripts."""

import random
import unittest

from linestream.closing import closed_set, is_closed_set
from linestream.desks import Desk
from linestream.happen import (
    all_printed, bare, most_kept, most_printed, passed, reached, silent, steady, unused)
from linestream.conditions import Has
from linestream.lateness import keeps, late, must_keep, sure
from linestream.likeness import agree, alike, needless, outlook, swappable, varied, without
from linestream.longs import LongText, counts_long, run_long
from linestream.nevers import first_state, is_never, never, step
from linestream.running import counts, run, trace
from linestream.scripts import Change, Print, Script
from linestream.sessions import Session
from linestream.sources import selection, source
from linestream.texts import read_script, write_script
from tests.bounded import few_lines, first_lines, made, texts_of
from tests.test_likeness import ALIKE


def inner(value):
    """All lists and dicts within a value, itself counted."""
    if isinstance(value, dict):
        return [value] + [found for each in value.values() for found in inner(each)]
    if isinstance(value, (list, tuple)):
        return ([value] if isinstance(value, list) else []) + [found for each in value for found in inner(each)]
    return []


def questions(script, text):
    """Questions about a script, as functions without arguments."""
    found = [lambda: unused(script), lambda: steady(script), lambda: bare(script), lambda: silent(script), lambda: most_printed(script),
             lambda: most_kept(script), lambda: first_state(script), lambda: needless(script), lambda: swappable(script), lambda: late(script),
             lambda: sure(script, text), lambda: must_keep(script), lambda: keeps(script), lambda: selection(script), lambda: source(script, text[:1]),
             lambda: step(script, first_state(script), 0, False), lambda: alike(script, Script()), lambda: varied(script, Script(), text),
             lambda: outlook(script, Script(), text), lambda: agree(script, script, text), lambda: closed_set(script, script), lambda: write_script(script),
             lambda: run(script, text), lambda: counts(script, text), lambda: list(trace(script, text))]
    if len(script):
        found += [lambda: reached(script, 0), lambda: passed(script, 0), lambda: never(script, 0, True), lambda: without(script, 0)]
    return found


class WholeTest(unittest.TestCase):
    def test_runs_sessions_and_long_texts_print_the_same(self):
        for seed, script in made(range(2200, 2260)):
            chance = random.Random(seed)
            lines = few_lines(2, script)
            for many in (0, 1, 2, 5, 9):
                text = [chance.choice(lines) for _ in range(many)]
                printed = run(script, text)
                session = Session(script)
                at = chance.randint(0, many)
                self.assertEqual([*session.feed(*text[:at]), *session.feed(*text[at:]), *session.finish()], printed)
                self.assertEqual(run_long(script, LongText.of(text)), LongText.of(printed))
                self.assertEqual(counts_long(script, LongText.of(text)), counts(script, text))
                self.assertEqual([line for row in trace(script, text) for line in row["printed"]], printed)
                self.assertEqual(sum(counts(script, text)), sum(len(row["done"]) for row in trace(script, text)))

    def test_alike_scripts_have_the_same_sure_lines_and_sources(self):
        pairs = ALIKE + [(script, bare(script)) for _, script in made(range(2300, 2340))]
        pairs += [(script, without(script, needless(script)[0])) for _, script in made(range(2340, 2400)) if needless(script)]
        for number, (one, other) in enumerate(pairs):
            chance = random.Random(number)
            lines = few_lines(2, one, other)
            self.assertIsNone(alike(one, other))
            for many in (0, 1, 2, 3, 4):
                text = [chance.choice(lines) for _ in range(many)]
                self.assertEqual(sure(one, text), sure(other, text))
                self.assertEqual(run(one, text), run(other, text))
            for printed in ([], ["a"], ["a", "b"], run(one, [lines[0], lines[-1]])[:3]):
                first, second = source(one, printed), source(other, printed)
                self.assertEqual(None if first is None else len(first), None if second is None else len(second))
            self.assertEqual(silent(one) is None, silent(other) is None)

    def test_questions_hang_together(self):
        for _, script in made(range(2400, 2450)):
            self.assertEqual(silent(script) is None, most_printed(script)[0] == 0)
            self.assertEqual(all_printed(Script(is_quiet=True), Has("a")), None)
            found = closed_set(script, script)
            self.assertTrue(is_closed_set(script, script, found))
            self.assertLessEqual(keeps(script)[0], 3)
            self.assertLessEqual(most_kept(script)[0], script.store)
            if selection(script) is None and not [each for each in script.commands if isinstance(each, Change)]:
                for text in texts_of(first_lines(script), 4, 60):
                    self.assertLessEqual(len(run(script, text)), len(text))
            for index in range(len(script)):
                paper = never(script, index, True)
                self.assertEqual(paper is None, index not in unused(script))
                self.assertTrue(paper is None or is_never(script, index, True, paper))
            for index in needless(script):
                self.assertIsNone(alike(script, without(script, index)))
            self.assertEqual(read_script(write_script(script)), script)

    def test_what_is_told_twice_is_equal_and_not_the_same(self):
        for seed, script in made(range(2450, 2480)):
            text = ["a", "b", ""][:seed % 4]
            for ask in questions(script, text):
                one, other = ask(), ask()
                self.assertEqual(one, other)
                for first in inner(one):
                    self.assertFalse([second for second in inner(other) if second is first])
                    self.assertIsNot(first, text)
            self.assertEqual(text, ["a", "b", ""][:seed % 4])

    def test_exactly_these_kinds(self):
        def plain(value):
            return value is None or type(value) in (int, str, bool, Script) or type(value) in (tuple, list) and all(map(plain, value)) \
                or type(value) is dict and all(map(plain, value.values()))
        for seed, script in made(range(2480, 2500)):
            for ask in questions(script, ["a", "ab"]):
                self.assertTrue(plain(ask()))

    def test_a_desk_of_made_scripts(self):
        desk = Desk()
        for seed, script in made(range(2500, 2520)):
            desk.say(" ; ".join(["script s " + write_script(script)[0], *write_script(script)[1:]]))
            self.assertEqual(desk.say("alike s s"), "-")
        self.assertEqual(desk.say("script p window 1 store 0 quiet ; print"), "ok")
        self.assertEqual(desk.scripts["p"], Script(Print(), is_quiet=True))


if __name__ == "__main__":
    unittest.main()
