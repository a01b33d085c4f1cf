"""[a2]: runs, and the talks that they make; TooMany."""

import random
import unittest

from oracles import BEGINNING, BINARY, KINDS, O, ONE, THREE, TWO, ask, random_program, say, some_programs
from playsense.errors import SenseFault, TooMany
from playsense.strategies import meaning
from playsense.talks import run
from talk_oracles import ASKED, NOT, SAY_0, SAY_1, TWICE, asking_often, run_by_words, strategy_of

NO = ("strategy", O, ())


class RunTest(unittest.TestCase):
    def test_nothing_given(self):
        self.assertEqual(run(SAY_0, ()), (0, (BEGINNING, say(0, 0))))
        self.assertEqual(run(SAY_1, ()), (1, (BEGINNING, say(1, 0))))
        self.assertEqual(run(NO, ()), (None, (BEGINNING,)))

    def test_an_answer_without_an_ask(self):
        for answer in (0, 1):
            strategy = meaning(BINARY, ("program", 2, ("say", answer)))
            self.assertEqual(run(strategy, (NO, NO)), (answer, (BEGINNING, say(answer, 0))))

    def test_the_example(self):
        answer, talk = run(TWICE, (NOT,))
        self.assertEqual(answer, 1)
        self.assertEqual(talk, (
            BEGINNING, ask((0,), 0), ask((0, 0), 1), ask((0,), 0), ask((0, 0), 3), say(1, 4), say(0, 3), say(0, 2),
            say(1, 1), say(1, 0),
        ))

    def test_answers(self):
        self.assertEqual(run(NOT, (SAY_0,)), (1, ASKED + (say(0, 1), say(1, 0))))
        self.assertEqual(run(NOT, (SAY_1,)), (0, ASKED + (say(1, 1), say(0, 0))))

    def test_an_argument_has_no_reply(self):
        self.assertEqual(run(NOT, (NO,)), (None, ASKED))
        self.assertEqual(run(TWICE, (("strategy", ONE, ()),)), (None, ASKED))
        half = strategy_of(ONE, "fun x: o. if x then stop else 0")
        self.assertEqual(run(TWICE, (half,)), (None, (
            BEGINNING, ask((0,), 0), ask((0, 0), 1), ask((0,), 0), ask((0, 0), 3), say(1, 4),
        )))

    def test_the_strategy_has_no_reply(self):
        for kind in KINDS:
            arguments = tuple(("strategy", argument, ()) for argument in kind)
            self.assertEqual(run(("strategy", kind, ()), arguments), (None, (BEGINNING,)))
        half = strategy_of(ONE, "fun x: o. if x then stop else 1")
        self.assertEqual(run(half, (SAY_0,)), (1, ASKED + (say(0, 1), say(1, 0))))
        self.assertEqual(run(half, (SAY_1,)), (None, ASKED + (say(1, 1),)))
        lost = strategy_of(TWO, "fun f: o -> o. f stop")
        self.assertEqual(run(lost, (NOT,)), (None, ASKED + (ask((0, 0), 1),)))

    def test_several_arguments(self):
        strategy = strategy_of(BINARY, "fun x: o. fun y: o. if y then x else 0")
        second = (BEGINNING, ask((1,), 0))
        self.assertEqual(run(strategy, (SAY_1, SAY_0)), (0, second + (say(0, 1), say(0, 0))))
        first = second + (say(1, 1), ask((0,), 0))
        self.assertEqual(run(strategy, (SAY_0, SAY_1)), (0, first + (say(0, 3), say(0, 0))))
        self.assertEqual(run(strategy, (SAY_1, SAY_1)), (1, first + (say(1, 3), say(1, 0))))
        self.assertEqual(run(strategy, (NO, SAY_1)), (None, first))
        self.assertEqual(run(strategy, (NO, SAY_0)), (0, second + (say(0, 1), say(0, 0))))

    def test_threads_of_different_arguments_within_one_another(self):
        strategy = strategy_of((ONE, ONE, O), "fun f: o -> o. fun g: o -> o. fun x: o. f (g x)")
        self.assertEqual(run(strategy, (NOT, NOT, SAY_1)), (1, (
            BEGINNING, ask((0,), 0), ask((0, 0), 1), ask((1,), 0), ask((1, 0), 3), ask((2,), 0), say(1, 5), say(1, 4),
            say(0, 3), say(0, 2), say(1, 1), say(1, 0),
        )))

    def test_an_argument_that_is_asked_several_times(self):
        strategy = strategy_of(ONE, "fun x: o. if x then (if x then x else 0) else 0")
        self.assertEqual(run(strategy, (SAY_1,)), (1, ASKED + (
            say(1, 1), ask((0,), 0), say(1, 3), ask((0,), 0), say(1, 5), say(1, 0),
        )))

    def test_an_argument_that_asks_its_own_several_times(self):
        both = strategy_of(ONE, "fun x: o. if x then x else 0")
        strategy = strategy_of(TWO, "fun f: o -> o. f 1")
        self.assertEqual(run(strategy, (both,)), (1, ASKED + (
            ask((0, 0), 1), say(1, 2), ask((0, 0), 1), say(1, 4), say(1, 1), say(1, 0),
        )))

    def test_an_argument_that_asks_its_own_argument_back(self):
        strategy = strategy_of(THREE, "fun g: (o -> o) -> o. g (fun x: o. if x then 0 else 1)")
        self.assertEqual(run(strategy, (TWICE,)), (1, (
            BEGINNING, ask((0,), 0), ask((0, 0), 1), ask((0, 0, 0), 2), ask((0, 0), 1), ask((0, 0, 0), 4), say(1, 5),
            say(0, 4), say(0, 3), say(1, 2), say(1, 1), say(1, 0),
        )))

    def test_talks_are_tuples(self):
        for answer, talk in (run(NO, ()), run(TWICE, (NOT,)), run(NOT, (NO,))):
            self.assertIsInstance(talk, tuple)

    def test_by_the_words(self):
        chance = random.Random(34)
        told = {}
        for kind, program in some_programs(34, 900, 14):
            arguments = tuple(meaning(inner, random_program(chance, inner, 8)) for inner in kind)
            strategy = meaning(kind, program)
            answer, talk = run(strategy, arguments)
            self.assertEqual((answer, talk), run_by_words(strategy, arguments))
            told[answer] = max(told.get(answer, 0), len(talk))
        self.assertEqual(set(told), {None, 0, 1})
        self.assertGreater(min(told.values()), 15)


class TooManyTest(unittest.TestCase):
    # Each of 27 asks of f takes 74 steps: f asks its own argument 36 times.
    often = asking_often(ONE, 36, (), ("say", 1))

    def strategy(self, then):
        return asking_often((ONE, O), 27, (("program", 0, ("say", 1)),), then)

    def test_two_thousand_steps(self):
        answer, talk = run(self.strategy(("say", 0)), (self.often, SAY_1))
        self.assertEqual((answer, len(talk)), (0, 2000))
        self.assertEqual(talk[-2:], (say(1, 1925), say(0, 0)))

    def test_two_thousand_steps_without_an_answer(self):
        answer, talk = run(self.strategy(("ask", 0, 1, (), ("stop",), ("stop",))), (self.often, NO))
        self.assertEqual((answer, len(talk)), (None, 2000))
        self.assertEqual(talk[-1], ask((1,), 0))

    def test_one_step_less(self):
        answer, talk = run(self.strategy(("stop",)), (self.often, NO))
        self.assertEqual((answer, len(talk)), (None, 1999))

    def test_one_step_more(self):
        with self.assertRaises(TooMany):
            run(self.strategy(("ask", 0, 1, (), ("stop",), ("stop",))), (self.often, SAY_1))

    def test_two_steps_more(self):
        for program in ("say", 0), ("stop",):
            with self.assertRaises(TooMany):
                run(self.strategy(("ask", 0, 1, (), program, ("say", 1))), (self.often, SAY_0))

    def test_many_more(self):
        strategy = strategy_of(TWO, "fun f: o -> o. " + "f (" * 12 + "1" + ")" * 12)
        with self.assertRaises(SenseFault) as caught:
            run(strategy, (strategy_of(ONE, "fun x: o. if x then (if x then 1 else 0) else 0"),))
        self.assertIs(type(caught.exception), TooMany)


if __name__ == "__main__":
    unittest.main()
