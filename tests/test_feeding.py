"""[a3]: uncovered talks, strategies that are fed with others, copycats; TooMany."""

import random
import unittest

from oracles import (
    BEGINNING, BINARY, KINDS, O, ONE, THREE, TWO, ask, random_program, rows_by_rule, say, some_programs,
)
from playsense.errors import SenseFault, TooMany
from playsense.programs import handed
from playsense.strategies import is_strategy, meaning
from playsense.talks import copycat, fed, uncovered
from talk_oracles import (
    ASKED, BEHIND, FIRST, INNER, NOT, SAY_0, SAY_1, TWICE, asking_often, fed_by_words, strategy_of, uncovered_by_words,
    without,
)

CHOICE = strategy_of((ONE, O, O), "fun f: o -> o. fun x: o. fun y: o. f (if x then y else x)")
FED_KINDS = [kind for kind in KINDS if kind != O] + [(ONE, ONE, O), (O, TWO, O)]


def nothing(kind):
    return ("strategy", kind, ())


def fed_cases(seed, many, size=14):
    """Triples of a strategy, a number of an argument, and a strategy for it, that can be fed with it."""
    chance = random.Random(seed)
    found = []
    for kind, program in some_programs(seed, many, size, FED_KINDS):
        k = chance.randrange(len(kind))
        case = (meaning(kind, program), k, meaning(kind[k], random_program(chance, kind[k], 8)))
        try:
            fed(*case)
            found.append(case)
        except TooMany:
            pass
    if many - len(found) > 4:
        raise AssertionError("too many are too many")
    return found


class UncoveredTest(unittest.TestCase):
    def test_the_play_of_one_step(self):
        self.assertEqual(uncovered(NOT, 0, SAY_0, FIRST), ASKED + (say(0, 1), say(1, 0)))
        self.assertEqual(uncovered(NOT, 0, SAY_1, FIRST), ASKED + (say(1, 1), say(0, 0)))
        self.assertEqual(uncovered(TWICE, 0, NOT, FIRST), (
            BEGINNING, ask((0,), 0), ask((0, 0), 1), ask((0,), 0), ask((0, 0), 3), say(1, 4), say(0, 3), say(0, 2),
            say(1, 1), say(1, 0),
        ))

    def test_a_step_that_is_seen_at_once(self):
        self.assertEqual(uncovered(BEHIND, 1, NOT, FIRST), ASKED)
        self.assertEqual(uncovered(BEHIND, 2, SAY_1, FIRST), ASKED)
        self.assertEqual(uncovered(meaning(ONE, ("program", 1, ("say", 1))), 0, SAY_0, FIRST), FIRST + (say(1, 0),))

    def test_a_longer_play_and_the_first_argument(self):
        # The argument 1 of the fed strategy is the argument 2 in the talk.
        play = (BEGINNING, ask((0,), 0), say(1, 1), ask((1,), 0), say(0, 3))
        talk = INNER + (ask((1,), 0), say(1, 3), ask((2,), 0), say(0, 5), say(0, 2), say(1, 1), say(1, 0))
        self.assertEqual(uncovered(CHOICE, 0, NOT, play), talk)
        self.assertEqual(uncovered(CHOICE, 0, NOT, play[:3]), talk[:6])
        self.assertEqual(uncovered(CHOICE, 0, NOT, play[:1]), talk[:4])

    def test_a_longer_play_and_a_middle_argument(self):
        play = INNER + (ask((1,), 0), say(0, 3))
        talk = INNER + (ask((1,), 0), say(1, 3), ask((2,), 0), say(0, 5), say(0, 2))
        self.assertEqual(uncovered(CHOICE, 1, SAY_1, play), talk)
        self.assertEqual(uncovered(CHOICE, 1, SAY_1, play[:3]), talk[:6])
        self.assertEqual(uncovered(CHOICE, 1, SAY_1, play[:1]), talk[:2])
        self.assertEqual(uncovered(CHOICE, 1, SAY_0, INNER), INNER + (
            ask((1,), 0), say(0, 3), ask((1,), 0), say(0, 5), say(0, 2),
        ))

    def test_a_longer_play_and_the_last_argument(self):
        play = INNER + (ask((1,), 0), say(1, 3))
        talk = INNER + (ask((1,), 0), say(1, 3), ask((2,), 0), say(0, 5), say(0, 2))
        self.assertEqual(uncovered(CHOICE, 2, SAY_0, play), talk)
        self.assertEqual(uncovered(CHOICE, 2, SAY_0, play[:3]), talk[:4])

    def test_an_asker_who_goes_back(self):
        # f, which is seen, asks its argument twice, and then answers.
        play = INNER + (
            ask((1,), 0), say(1, 3), say(0, 2), ask((0, 0), 1), ask((1,), 0), say(0, 7), say(1, 6), say(1, 1),
        )
        within = (ask((1,), 0), ask((1, 0), 3), ask((2,), 0), say(1, 5), say(1, 4), say(0, 3), say(0, 2))
        again = (ask((0, 0), 1), ask((1,), 0), ask((1, 0), 11), ask((2,), 0), say(0, 13), say(0, 12), say(1, 11))
        self.assertEqual(
            uncovered(BEHIND, 1, NOT, play), INNER + within + again + (say(1, 10), say(1, 1), say(1, 0)),
        )

    def test_an_asker_who_asks_behind_hidden_steps(self):
        play = (BEGINNING, ask((0,), 0), ask((0, 0), 1), ask((0,), 0), ask((0, 0), 3))
        self.assertEqual(uncovered(copycat(TWO), 0, TWICE, play), (
            BEGINNING, ask((0,), 0), ask((0, 0), 1), ask((1,), 0), ask((1, 0), 3), ask((0, 0, 0), 2), ask((0, 0), 1),
            ask((1,), 0), ask((1, 0), 7), ask((0, 0, 0), 6), say(1, 9), say(1, 8),
        ))

    def test_replies_that_stay_hidden_for_many_turns(self):
        many = strategy_of((ONE, O), "fun f: o -> o. fun x: o. " + "f (" * 20 + "x" + ")" * 20)
        same = strategy_of(ONE, "fun y: o. y")
        talk = uncovered(many, 0, same, FIRST)
        self.assertEqual(talk[:-1], (BEGINNING,) + tuple(
            step for n in range(1, 40, 2) for step in (ask((0,), 0), ask((0, 0), n))
        ))
        self.assertEqual(talk[-1], ask((1,), 0))
        longer = uncovered(many, 0, same, (BEGINNING, ask((0,), 0), say(1, 1)))
        self.assertEqual(longer[:42], talk)
        self.assertEqual(longer[42:], (say(1, 41),) + tuple(say(1, n) for n in range(40, -1, -1)))

    def test_the_strategy_has_no_reply(self):
        self.assertEqual(uncovered(nothing(ONE), 0, SAY_1, FIRST), FIRST)
        half = strategy_of(BINARY, "fun x: o. fun y: o. if x then (if y then stop else 1) else 0")
        self.assertEqual(uncovered(half, 1, SAY_1, ASKED + (say(1, 1),)), (
            BEGINNING, ask((0,), 0), say(1, 1), ask((1,), 0), say(1, 3),
        ))
        self.assertEqual(uncovered(half, 0, SAY_1, ASKED + (say(1, 1),)), (
            BEGINNING, ask((0,), 0), say(1, 1), ask((1,), 0), say(1, 3),
        ))

    def test_the_argument_has_no_reply(self):
        self.assertEqual(uncovered(NOT, 0, nothing(O), FIRST), ASKED)
        self.assertEqual(uncovered(CHOICE, 1, nothing(O), INNER), INNER + (ask((1,), 0),))
        self.assertEqual(uncovered(CHOICE, 1, nothing(O), FIRST), ASKED)
        lost = strategy_of(ONE, "fun y: o. if y then stop else 1")
        self.assertEqual(
            uncovered(BEHIND, 1, lost, INNER + (ask((1,), 0), say(1, 3))),
            INNER + (ask((1,), 0), ask((1, 0), 3), ask((2,), 0), say(1, 5), say(1, 4)),
        )

    def test_by_the_words(self):
        ends = {True: 0, False: 0}
        for strategy, k, other in fed_cases(35, 300, 10):
            for sight, step in fed_by_words(strategy, k, other)[2]:
                plays = [sight]
                if step[0][0] == "ask":
                    plays.append(sight + (step, say(1, len(sight))))
                for play in plays:
                    talk, found = uncovered_by_words(strategy, k, other, play)
                    self.assertEqual(uncovered(strategy, k, other, play), talk)
                    ends[found is None] += 1
        self.assertGreater(ends[True], 50)
        self.assertGreater(ends[False], 300)


class FedTest(unittest.TestCase):
    def test_an_answer(self):
        self.assertEqual(fed(NOT, 0, SAY_1), SAY_0)
        self.assertEqual(fed(NOT, 0, SAY_0), SAY_1)
        self.assertEqual(fed(TWICE, 0, NOT), SAY_1)

    def test_no_reply(self):
        self.assertEqual(fed(NOT, 0, nothing(O)), nothing(O))
        for kind in FED_KINDS:
            for k in range(len(kind)):
                argument = meaning(kind[k], ("program", len(kind[k]), ("say", 1)))
                self.assertEqual(fed(nothing(kind), k, argument), nothing(without(kind, k)))
        lost = strategy_of(ONE, "fun y: o. if y then stop else 1")
        self.assertEqual(fed(NOT, 0, fed(lost, 0, SAY_1)), nothing(O))
        self.assertEqual(fed(BEHIND, 1, lost), strategy_of(
            (ONE, O), "fun f: o -> o. fun x: o. f (if x then stop else 1)",
        ))

    def test_the_first_the_middle_and_the_last_argument(self):
        self.assertEqual(fed(BEHIND, 0, NOT), ("strategy", (ONE, O), (
            (FIRST, ask((0,), 0)),
            (INNER, ask((1,), 0)),
            (INNER + (ask((1,), 0), say(0, 3)), say(0, 2)),
            (INNER + (ask((1,), 0), say(1, 3)), say(1, 2)),
            (ASKED + (say(0, 1),), say(1, 0)),
            (ASKED + (say(1, 1),), say(0, 0)),
        )))
        self.assertEqual(fed(BEHIND, 1, NOT), ("strategy", (ONE, O), (
            (FIRST, ask((0,), 0)),
            (INNER, ask((1,), 0)),
            (INNER + (ask((1,), 0), say(0, 3)), say(1, 2)),
            (INNER + (ask((1,), 0), say(1, 3)), say(0, 2)),
            (ASKED + (say(0, 1),), say(0, 0)),
            (ASKED + (say(1, 1),), say(1, 0)),
        )))
        self.assertEqual(fed(BEHIND, 2, SAY_1), strategy_of((ONE, ONE), "fun f: o -> o. fun g: o -> o. f (g 1)"))

    def test_the_kind_is_without_the_argument(self):
        strategy = ("strategy", (O, ONE, TWO, BINARY), ())
        for k, kind in enumerate(((ONE, TWO, BINARY), (O, TWO, BINARY), (O, ONE, BINARY), (O, ONE, TWO))):
            self.assertEqual(fed(strategy, k, nothing(strategy[1][k])), nothing(kind))

    def test_an_argument_that_is_not_asked(self):
        strategy = strategy_of((O, ONE, O), "fun x: o. fun f: o -> o. fun y: o. f y")
        self.assertEqual(fed(strategy, 0, SAY_0), strategy_of((ONE, O), "fun f: o -> o. fun y: o. f y"))

    def test_arguments_that_ask_back(self):
        strategy = strategy_of(THREE, "fun g: (o -> o) -> o. g (fun x: o. if x then 0 else 1)")
        self.assertEqual(fed(strategy, 0, TWICE), SAY_1)
        two = strategy_of((TWO, O), "fun g: (o -> o) -> o. fun y: o. g (fun x: o. if x then y else 1)")
        self.assertEqual(fed(two, 0, TWICE), strategy_of(ONE, "fun y: o. if y then y else 1"))

    def test_backs_of_rows_that_were_behind_hidden_steps(self):
        two = strategy_of((ONE, TWO), "fun f: o -> o. fun g: (o -> o) -> o. f (g (fun x: o. f x))")
        same = strategy_of(ONE, "fun y: o. y")
        self.assertEqual(fed(two, 0, same), strategy_of((TWO,), "fun g: (o -> o) -> o. g (fun x: o. x)"))

    def test_the_order_is_that_of_the_sights(self):
        for case in fed_cases(36, 300):
            strategy = fed(*case)
            self.assertIs(is_strategy(strategy), True)
            self.assertEqual(list(strategy[2]), sorted(strategy[2]))

    def test_by_the_words(self):
        rows = 0
        for case in fed_cases(37, 500, 10):
            found = fed(*case)
            self.assertEqual(found, fed_by_words(*case))
            rows = max(rows, len(found[2]))
        self.assertGreater(rows, 10)

    def test_one_argument_after_the_other_in_either_order(self):
        chance = random.Random(38)
        for strategy, _, _ in fed_cases(38, 400, 8):
            kind = strategy[1]
            if len(kind) < 2:
                continue
            i, j = sorted(chance.sample(range(len(kind)), 2))
            first, second = (meaning(kind[k], random_program(chance, kind[k], 4)) for k in (i, j))
            self.assertEqual(fed(fed(strategy, i, first), j - 1, second), fed(fed(strategy, j, second), i, first))


class CopycatTest(unittest.TestCase):
    def test_of_answers(self):
        self.assertEqual(copycat(O), ("strategy", ONE, (
            (FIRST, ask((0,), 0)),
            (ASKED + (say(0, 1),), say(0, 0)),
            (ASKED + (say(1, 1),), say(1, 0)),
        )))

    def test_of_programs(self):
        self.assertEqual(copycat(ONE), ("strategy", (ONE, O), (
            (FIRST, ask((0,), 0)),
            (INNER, ask((1,), 0)),
            (INNER + (ask((1,), 0), say(0, 3)), say(0, 2)),
            (INNER + (ask((1,), 0), say(1, 3)), say(1, 2)),
            (ASKED + (say(0, 1),), say(0, 0)),
            (ASKED + (say(1, 1),), say(1, 0)),
        )))

    def test_it_is_what_the_program_that_hands_on_means(self):
        for kind in KINDS:
            rows = tuple(sorted(rows_by_rule((kind,) + kind, handed(kind)).items()))
            self.assertEqual(copycat(kind), ("strategy", (kind,) + kind, rows))

    def test_fed_with_a_strategy_it_is_this_strategy(self):
        for kind, program in some_programs(39, 300, 14):
            strategy = meaning(kind, program)
            self.assertEqual(fed(copycat(kind), 0, strategy), strategy)

    def test_a_copycat_fed_with_a_copycat(self):
        for kind in (O, ONE, TWO, BINARY, (ONE, O)):
            self.assertEqual(fed(copycat((kind,) + kind), 0, copycat(kind)), copycat(kind))

    def test_a_strategy_fed_with_a_copycat(self):
        strategy = strategy_of(((ONE, O),), "fun a: (o -> o) -> o -> o. a (fun x: o. if x then 0 else 1) 1")
        self.assertEqual(fed(strategy, 0, copycat(ONE)), SAY_0)
        strategy = strategy_of((ONE, TWO), "fun f: o -> o. fun g: (o -> o) -> o. g (fun x: o. f x)")
        self.assertEqual(fed(strategy, 0, copycat(O)), strategy_of((TWO,), "fun g: (o -> o) -> o. g (fun x: o. x)"))


class TooManyTest(unittest.TestCase):
    def often(self, many):
        return asking_often(ONE, many, (), ("say", 1))

    def strategy(self, then):
        return asking_often((ONE, O), 27, (("program", 0, ("say", 1)),), then)

    def test_talks_of_two_thousand_steps(self):
        strategy = self.strategy(("say", 0))
        talk = uncovered(strategy, 0, self.often(36), FIRST)
        self.assertEqual((len(talk), talk[-1]), (2000, say(0, 0)))
        self.assertEqual(fed(strategy, 0, self.often(36)), strategy_of(ONE, "fun x: o. 0"))

    def test_talks_that_get_longer(self):
        for then in ("ask", 0, 1, (), ("say", 0), ("stop",)), ("ask", 0, 1, (), ("stop",), ("stop",)):
            strategy = self.strategy(then)
            talk = uncovered(strategy, 0, self.often(36), FIRST)
            self.assertEqual((len(talk), talk[-1]), (2000, ask((1,), 0)))
            with self.assertRaises(TooMany):
                uncovered(strategy, 0, self.often(36), ASKED + (say(0, 1),))
            with self.assertRaises(TooMany):
                fed(strategy, 0, self.often(36))

    def test_hidden_steps_that_get_too_many(self):
        with self.assertRaises(TooMany):
            uncovered(self.strategy(("stop",)), 0, self.often(37), FIRST)
        with self.assertRaises(TooMany):
            fed(self.strategy(("stop",)), 0, self.often(37))
        self.assertEqual(len(uncovered(self.strategy(("stop",)), 0, self.often(36), FIRST)), 1999)
        self.assertEqual(fed(self.strategy(("stop",)), 0, self.often(36)), nothing(ONE))

    def tree(self, asks, last):
        """A body of so many asks, of a few arguments, as flat as can be, its last end being another body."""
        if asks == 0:
            return last
        left = (asks - 1) // 2
        return ("ask", 0, 1, (), self.tree(left, ("say", 0)), self.tree(asks - 1 - left, last))

    def test_two_thousand_rows(self):
        # An ask has a row, and each end that says something: 1,000 and 1,000.
        strategy = meaning(BINARY, ("program", 2, self.tree(1000, ("stop",))))
        self.assertEqual(len(strategy[2]), 2000)
        self.assertEqual(fed(strategy, 0, SAY_1), meaning(ONE, ("program", 1, self.lower(self.tree(1000, ("stop",))))))

    def lower(self, body):
        """The body of a tree with the argument 0 in the place of 1."""
        if body[0] != "ask":
            return body
        return ("ask", 0, 0, (), self.lower(body[4]), self.lower(body[5]))

    def test_more_rows(self):
        strategy = meaning(BINARY, ("program", 2, self.tree(1000, ("say", 1))))
        self.assertEqual(len(strategy[2]), 2001)
        with self.assertRaises(TooMany):
            fed(strategy, 0, SAY_1)

    def test_more_rows_of_a_small_strategy(self):
        strategy = strategy_of((ONE, O), "fun f: o -> o. fun x: o. f (f (f (f x)))")
        argument = strategy_of(ONE, "fun y: o. if y then (if y then 1 else 0) else (if y then 0 else 1)")
        with self.assertRaises(SenseFault) as caught:
            fed(strategy, 0, argument)
        self.assertIs(type(caught.exception), TooMany)
        # With three in the place of four there are 8 asks behind one another, and two ends of each.
        three = strategy_of((ONE, O), "fun f: o -> o. fun x: o. f (f (f x))")
        self.assertEqual(len(fed(three, 0, argument)[2]), 2 ** 9 - 1)


if __name__ == "__main__":
    unittest.main()
