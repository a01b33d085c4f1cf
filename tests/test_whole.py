"""[a4] with [p2] and [p4], and the document's example: what holds over the whole program."""

import random
import unittest

from oracles import KINDS, O, ONE, TWO, asker_sight_by_rule, plain_by_words, random_program, some_programs
from playsense.checking import kind_of
from playsense.errors import TooMany
from playsense.learning import apart, is_within, learned, pairs
from playsense.normal import normal, plain
from playsense.plays import fault_of
from playsense.strategies import fault_in, is_strategy, meaning, plays_of, program_of
from playsense.talks import copycat, fed, judge_talk, run, seen, told_alone, uncovered
from playsense.terms import read
from talk_oracles import beginning_of_thread, term_fed, without

ASKING_KINDS = [kind for kind in KINDS if kind != O] + [(ONE, ONE, O), (O, TWO, O)]


def cases(seed, many, size=14):
    """A kind, a program of it, and programs for its arguments, again and again."""
    chance = random.Random(seed)
    for kind, program in some_programs(seed, many, size, ASKING_KINDS):
        yield kind, program, tuple(random_program(chance, inner, 9) for inner in kind)


def meanings(kind, program, arguments):
    return meaning(kind, program), tuple(meaning(inner, argument) for inner, argument in zip(kind, arguments))


class ExampleTest(unittest.TestCase):
    def test_the_example(self):
        t = read("fun f: o -> o. f (f 1)")
        self.assertEqual(kind_of(t), (((),),))
        p = normal(t)
        self.assertEqual(p, ('program', 1, ('ask', 0, 0, (('program', 0, ('ask', 1, 0, (
            ('program', 0, ('say', 1)),), ('say', 0), ('say', 1))),), ('say', 0), ('say', 1))))
        s = meaning((((),),), p)
        not_ = meaning(((),), normal(read("fun x: o. if x then 0 else 1")))
        self.assertEqual(run(s, (not_,))[0], 1)
        self.assertEqual(len(run(s, (not_,))[1]), 10)


class RunsTest(unittest.TestCase):
    def test_a_run_says_the_plain_answer(self):
        told = {None: 0, 0: 0, 1: 0}
        for kind, program, arguments in cases(61, 900):
            strategy, given = meanings(kind, program, arguments)
            answer = run(strategy, given)[0]
            self.assertEqual(answer, plain(program, arguments))
            self.assertEqual(answer, plain_by_words(program, arguments))
            told[answer] += 1
        self.assertGreater(min(told.values()), 50)

    def test_its_talk_is_a_legal_play_of_all_of_them(self):
        for kind, program, arguments in cases(62, 500):
            strategy, given = meanings(kind, program, arguments)
            talk = run(strategy, given)[1]
            self.assertIsNone(fault_of(kind, talk))
            self.assertIsNone(fault_in(strategy, talk))
            for k, argument in enumerate(given):
                self.assertIs(judge_talk(strategy, k, argument, talk), True)
            for n in range(1, len(talk), 2):
                if beginning_of_thread(talk, n) == n:
                    k, = talk[n][0][1]
                    alone = told_alone(talk, n)
                    self.assertIsNone(fault_of(kind[k], alone))
                    self.assertIsNone(fault_in(given[k], alone))

    def test_the_asker_sees_but_one_thread(self):
        for kind, program, arguments in cases(63, 200):
            talk = run(*meanings(kind, program, arguments))[1]
            for n in range(2, len(talk), 2):
                sight = asker_sight_by_rule(talk[:n])
                self.assertEqual({beginning_of_thread(talk, m) for m in sight[1:]}, {beginning_of_thread(talk, n)})

    def test_feeding_all_arguments_tells_what_the_run_says(self):
        for kind, program, arguments in cases(64, 400, 9):
            strategy, given = meanings(kind, program, arguments)
            answer = run(strategy, given)[0]
            for argument in given:
                strategy = fed(strategy, 0, argument)
            self.assertEqual(program_of(strategy)[2], ("stop",) if answer is None else ("say", answer))


class FeedingTest(unittest.TestCase):
    def test_what_is_fed_is_the_meaning_of_the_term_that_gives_the_one_to_the_other(self):
        rows = 0
        for kind, program, arguments in cases(65, 700):
            strategy, given = meanings(kind, program, arguments)
            for k, argument in enumerate(arguments):
                try:
                    expected = meaning(without(kind, k), normal(term_fed(kind, program, k, argument)))
                except TooMany:
                    continue
                if len(expected[2]) <= 500:
                    self.assertEqual(fed(strategy, k, given[k]), expected)
                    rows = max(rows, len(expected[2]))
        self.assertGreater(rows, 100)

    def test_the_first_argument_is_given_by_an_application(self):
        for text, argument in (("fun f: o -> o. fun x: o. f (f x)", "fun x: o. if x then 0 else 1"),
                               ("fun g: (o -> o) -> o. fun f: o -> o. g f", "fun f: o -> o. f (f 1)"),
                               ("fun x: o. fun y: o. if y then x else 0", "1")):
            term, given = read(text), read(argument)
            whole = ("apply", term, given)
            strategy = meaning(kind_of(term), normal(term))
            found = fed(strategy, 0, meaning(kind_of(given), normal(given)))
            self.assertEqual(found, meaning(kind_of(whole), normal(whole)))

    def test_its_talks_are_legal_and_show_the_play(self):
        for kind, program, arguments in cases(66, 250, 9):
            strategy, given = meanings(kind, program, arguments)
            for k, argument in enumerate(given):
                smaller = fed(strategy, k, argument)
                for play in plays_of(smaller, 6)[1:10]:
                    talk = uncovered(strategy, k, argument, play[:-1])
                    self.assertIsNone(fault_of(kind, talk))
                    self.assertIsNone(fault_in(strategy, talk))
                    self.assertIs(judge_talk(strategy, k, argument, talk), True)
                    self.assertEqual(seen(talk, k), play)

    def test_a_copycat_of_each_kind(self):
        for kind in KINDS:
            self.assertIs(is_strategy(copycat(kind)), True)


class LearningTest(unittest.TestCase):
    def test_talks_tell_what_the_strategy_does(self):
        for kind, program, arguments in cases(67, 300):
            strategy, given = meanings(kind, program, arguments)
            answer, talk = run(strategy, given)
            word, least = learned(kind, (talk,))
            self.assertEqual(word, "program")
            self.assertIs(is_strategy(least), True)
            self.assertIs(is_within(least, strategy), True)
            self.assertTrue(set(pairs(talk)) <= set(strategy[2]))
            self.assertEqual(run(least, given), (answer, talk))
            self.assertEqual(plain(program_of(least), arguments), answer)

    def test_a_strategy_and_its_program(self):
        for kind, program, _ in cases(68, 300):
            strategy = meaning(kind, program)
            plays = tuple(sight + (step,) for sight, step in strategy[2])
            self.assertEqual(program_of(learned(kind, plays)[1]), program)
            self.assertIsNone(apart(strategy, learned(kind, plays)[1]))


if __name__ == "__main__":
    unittest.main()
