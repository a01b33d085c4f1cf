"""[a3]: whether something is a talk of a strategy and another one for one of its arguments."""

import random
import unittest

from oracles import (
    BEGINNING, BINARY, O, ONE, THREE, TWO, ask, random_program, reply_by_rule, say, some_programs, steps_by_trying,
)
from playsense.errors import TooMany
from playsense.plays import fault_of
from playsense.strategies import meaning
from playsense.talks import fed, judge_talk, run, uncovered
from talk_oracles import (
    ASKED, BEHIND, FIRST, NOT, SAY_0, SAY_1, TWICE, asker_step_by_words, beginning_of_thread, strategy_of,
)

# Of BEHIND, given NOT for g: f answers 0, when the argument that it asks was 1.
TALK = (
    BEGINNING,
    ask((0,), 0),
    ask((0, 0), 1),
    ask((1,), 0),
    ask((1, 0), 3),
    ask((2,), 0),
    say(0, 5),
    say(0, 4),
    say(1, 3),
    say(1, 2),
    say(0, 1),
    say(0, 0),
)
NO_STEPS = (
    None, 0, True, "", "ask", (), [], {}, object(), 1.5, ("ask", ()), (("ask", (0,)),), (("ask", (0,)), 0, 0),
    [("ask", (0,)), 0], (["ask", (0,)], 0), (("ask", [0]), 0), (("ask", (True,)), 0), (("ask", (False,)), 0),
    (("ask", (0,)), False), (("ask", (0,)), True), (("ask", (0.0,)), 0), (("ask", None), 0), (("ask",), 0),
    (("say", True), 1), (("say", False), 1), (("say", 1), True), (("say", 2), 1), (("say", None), 1), (("say", 1), -1),
    (("say", 1), None), (("say", "1"), 1), (("say", 1), 1.0), (("stop",), 1), (("say", 1), (1,)), (("say", [1]), 1),
)


def judge_by_words(strategy, k, argument, talk):
    if fault_of(strategy[1], talk) is not None:
        return False
    for number, step in enumerate(talk):
        before = talk[:number]
        if number % 2 == 1 and reply_by_rule(strategy, before) != step:
            return False
        begins = beginning_of_thread(talk, number)
        if number % 2 == 0 and begins is not None and talk[begins][0][1] == (k,):
            if asker_step_by_words(argument, before) != step:
                return False
    return True


def with_true(value):
    """A value with True in the place of its first 1, or False in that of its first 0, where there is one."""
    if isinstance(value, tuple):
        for number, item in enumerate(value):
            changed = with_true(item)
            if repr(changed) != repr(item):
                return value[:number] + (changed,) + value[number + 1:]
        return value
    return bool(value) if value in (0, 1) else value


class JudgeTalkTest(unittest.TestCase):
    def assert_talk(self, strategy, k, argument, talk):
        self.assertIs(judge_talk(strategy, k, argument, talk), True, talk)

    def assert_none(self, strategy, k, argument, talk):
        self.assertIs(judge_talk(strategy, k, argument, talk), False, talk)

    def test_what_is_uncovered(self):
        self.assert_talk(TWICE, 0, NOT, uncovered(TWICE, 0, NOT, FIRST))
        self.assert_talk(BEHIND, 1, NOT, uncovered(BEHIND, 1, NOT, FIRST))
        self.assert_talk(BEHIND, 1, NOT, uncovered(BEHIND, 1, NOT, ASKED + (ask((0, 0), 1),)))
        self.assert_talk(NOT, 0, SAY_1, ASKED + (say(1, 1), say(0, 0)))
        self.assert_talk(BEHIND, 1, NOT, TALK)

    def test_what_is_cut_short(self):
        for many in range(len(TALK) + 1):
            self.assert_talk(BEHIND, 1, NOT, TALK[:many])

    def test_no_steps_and_one(self):
        for strategy, k, argument in ((BEHIND, 1, NOT), (("strategy", TWO, ()), 0, NOT), (NOT, 0, ("strategy", O, ()))):
            self.assert_talk(strategy, k, argument, ())
            self.assert_talk(strategy, k, argument, FIRST)

    def test_the_other_arguments_say_what_they_like(self):
        for answer in (0, 1):
            for f_answer in (0, 1):
                talk = TALK[:6] + (
                    say(answer, 5), say(answer, 4), say(1 - answer, 3), say(1 - answer, 2), say(f_answer, 1),
                    say(f_answer, 0),
                )
                self.assert_talk(BEHIND, 1, NOT, talk)
                # f is no NOT, and x is no 1, unless they behave so.
                self.assertIs(judge_talk(BEHIND, 0, NOT, talk), f_answer == answer)
                self.assertIs(judge_talk(BEHIND, 2, SAY_1, talk), answer == 1)

    def test_the_number_of_the_argument_counts(self):
        same = strategy_of(ONE, "fun x: o. x")
        self.assert_none(BEHIND, 1, same, TALK)
        self.assert_none(BEHIND, 0, same, TALK)
        self.assert_talk(BEHIND, 0, NOT, TALK)
        self.assert_talk(BEHIND, 2, SAY_0, TALK)
        self.assert_none(BEHIND, 2, SAY_1, TALK)

    def test_another_answer_of_the_argument(self):
        self.assert_none(NOT, 0, SAY_1, ASKED + (say(0, 1), say(1, 0)))
        self.assert_none(NOT, 0, SAY_1, ASKED + (say(0, 1),))
        self.assert_none(BEHIND, 1, NOT, TALK[:8] + (say(0, 3),))
        self.assert_none(BEHIND, 1, NOT, TALK[:8] + (say(0, 3), say(0, 2), say(0, 1), say(0, 0)))
        self.assert_none(BEHIND, 1, NOT, TALK[:4] + (say(0, 3),))

    def test_another_answer_of_the_strategy(self):
        self.assert_none(NOT, 0, SAY_1, ASKED + (say(1, 1), say(1, 0)))
        self.assert_none(BEHIND, 1, NOT, TALK[:7] + (say(1, 4),))
        self.assert_none(BEHIND, 1, NOT, TALK[:11] + (say(1, 0),))
        self.assert_none(BEHIND, 1, NOT, TALK[:1] + (say(1, 0),))

    def test_steps_where_there_is_no_reply(self):
        self.assert_none(("strategy", TWO, ()), 0, NOT, ASKED)
        self.assert_none(NOT, 0, ("strategy", O, ()), ASKED + (say(1, 1),))
        self.assert_talk(NOT, 0, ("strategy", O, ()), ASKED)
        lost = strategy_of(ONE, "fun x: o. if x then stop else 1")
        self.assert_talk(BEHIND, 1, lost, TALK)
        self.assert_none(BEHIND, 0, lost, TALK)

    def test_a_step_left_out(self):
        for number in range(len(TALK) - 1):
            self.assert_none(BEHIND, 1, NOT, TALK[:number] + TALK[number + 1:])
        self.assert_talk(BEHIND, 1, NOT, TALK[:-1])

    def test_a_step_put_in(self):
        for number in range(len(TALK) + 1):
            for step in TALK:
                talk = TALK[:number] + (step,) + TALK[number:]
                self.assertIs(judge_talk(BEHIND, 1, NOT, talk), judge_by_words(BEHIND, 1, NOT, talk))
                if number > 0:
                    self.assert_none(BEHIND, 1, NOT, talk)

    def test_a_step_behind(self):
        self.assert_none(BEHIND, 1, NOT, TALK + (say(0, 0),))
        self.assert_none(BEHIND, 1, NOT, TALK + (ask((0, 0), 1),))
        self.assert_none(BEHIND, 1, NOT, TALK + TALK)
        self.assert_none(TWICE, 0, NOT, uncovered(TWICE, 0, NOT, FIRST) + (say(1, 1),))

    def test_another_back(self):
        for number in range(1, len(TALK)):
            for back in range(-1, len(TALK) + 1):
                if back != TALK[number][1]:
                    self.assert_none(BEHIND, 1, NOT, TALK[:number] + ((TALK[number][0], back),) + TALK[number + 1:])
                    self.assert_none(BEHIND, 1, NOT, TALK[:number] + ((TALK[number][0], back),))

    def test_a_legal_talk_that_goes_back_to_an_earlier_ask(self):
        both = strategy_of(ONE, "fun x: o. if x then x else 0")
        talk = uncovered(TWICE, 0, both, FIRST)
        self.assert_talk(TWICE, 0, both, talk)
        other = strategy_of(ONE, "fun x: o. if x then 1 else 0")
        self.assert_none(TWICE, 0, other, talk)
        two = strategy_of(TWO, "fun g: o -> o. g (g 1)")
        deep = strategy_of(THREE, "fun g: (o -> o) -> o. g (fun x: o. g (fun y: o. if x then y else 0))")
        other_deep = strategy_of(THREE, "fun g: (o -> o) -> o. g (fun x: o. g (fun y: o. if y then y else 0))")
        talk = uncovered(deep, 0, two, FIRST)
        self.assert_talk(deep, 0, two, talk)
        self.assert_none(other_deep, 0, two, talk)
        self.assertNotEqual(talk, uncovered(other_deep, 0, two, FIRST))

    def test_plays_that_are_not_legal(self):
        for talk in ((say(1, 0),), ASKED + (ask((0,), 0),), ASKED + (ask((0, 1), 1),), ASKED + (say(1, 0),),
                     (BEGINNING, BEGINNING), (BEGINNING, say(1, 1)), TALK[1:], (ask((0,), None),)):
            self.assert_none(BEHIND, 1, NOT, talk)
            self.assert_none(BEHIND, 0, NOT, talk)

    def test_values_that_are_no_steps(self):
        for value in NO_STEPS:
            for number in range(len(TALK) + 1):
                self.assert_none(BEHIND, 1, NOT, TALK[:number] + (value,) + TALK[number + 1:])
                self.assert_none(BEHIND, 1, NOT, TALK[:number] + (value,))
            self.assert_none(NOT, 0, SAY_1, ASKED + (value,))
            self.assert_none(NOT, 0, SAY_1, (value, value))

    def test_true_in_the_place_of_a_number(self):
        many = 0
        for number, (move, back) in enumerate(TALK):
            for changed in ((with_true(move), back), (move, with_true(back))):
                talk = TALK[:number] + (changed,) + TALK[number + 1:]
                self.assertEqual(talk, TALK)
                if repr(talk) != repr(TALK):
                    self.assert_none(BEHIND, 1, NOT, talk)
                    self.assert_none(BEHIND, 1, NOT, talk[:number + 1])
                    many += 1
        self.assertEqual(many, 16)

    def test_lists(self):
        for number, (move, back) in enumerate(TALK):
            for step in ([move, back], (list(move), back), ((move[0], [move[1]]), back)):
                self.assert_none(BEHIND, 1, NOT, TALK[:number] + (step,) + TALK[number + 1:])

    def test_by_the_words(self):
        chance = random.Random(40)
        told = {True: 0, False: 0}
        kinds = (ONE, TWO, BINARY, (ONE, O), (ONE, ONE), THREE, (TWO, ONE), (O, TWO))
        for kind, program in some_programs(40, 160, 12, kinds):
            k = chance.randrange(len(kind))
            arguments = tuple(meaning(inner, random_program(chance, inner, 8)) for inner in kind)
            strategy = meaning(kind, program)
            talk = run(strategy, arguments)[1]
            self.assertIs(judge_talk(strategy, k, arguments[k], talk), True)
            self.assertIs(judge_talk(strategy, k, meaning(kind[k], random_program(chance, kind[k], 8)), FIRST), True)
            for number in range(1, min(len(talk), 30)):
                for step in chance.sample(steps_by_trying(kind, talk[:number]), 1) + [talk[number]]:
                    other = talk[:number] + (step,) + talk[number + 1:]
                    for changed in (other, other[:number + 1]):
                        expected = judge_by_words(strategy, k, arguments[k], changed)
                        self.assertIs(judge_talk(strategy, k, arguments[k], changed), expected)
                        told[expected] += 1
        self.assertGreater(min(told.values()), 200)

    def test_uncovered_talks_of_many_strategies(self):
        chance = random.Random(41)
        longest = 0
        for kind, program in some_programs(41, 200, 12, (ONE, TWO, (ONE, O), (TWO, O), THREE, (ONE, ONE, O))):
            k = chance.randrange(len(kind))
            strategy, argument = meaning(kind, program), meaning(kind[k], random_program(chance, kind[k], 8))
            try:
                rows = fed(strategy, k, argument)[2]
            except TooMany:
                continue
            for sight, _ in rows[:20]:
                talk = uncovered(strategy, k, argument, sight)
                self.assert_talk(strategy, k, argument, talk)
                longest = max(longest, len(talk))
        self.assertGreater(longest, 30)

    def test_talks_of_two_hundred_steps_and_more(self):
        strategy = strategy_of(TWO, "fun f: o -> o. " + "f (" * 50 + "1" + ")" * 50)
        talk = uncovered(strategy, 0, NOT, FIRST)
        self.assertEqual(len(talk), 202)
        self.assert_talk(strategy, 0, NOT, talk)
        self.assert_none(strategy, 0, NOT, talk[:-2] + (say(0, 1), say(0, 0)))
        self.assert_none(strategy, 0, NOT, talk[:-1] + (say(1 - talk[-1][0][1], 0),))


if __name__ == "__main__":
    unittest.main()
