"""[s5], [s6]: replies, and the plays of a strategy."""

import unittest

from oracles import (
    BEGINNING, BINARY, KINDS, LONG, O, ONE, THREE, TWO, ask, legal_plays, reply_by_rule, say, some_plays,
    some_programs, steps_by_trying,
)
from playsense.normal import normal
from playsense.plays import alone, fault_of
from playsense.programs import handed
from playsense.strategies import fault_in, meaning, plays_of, reply
from playsense.terms import read


def strategy_of(kind, text):
    return meaning(kind, normal(read(text)))


ASKED = (BEGINNING, ask((0,), 0))
NOT = strategy_of(ONE, "fun x: o. if x then 0 else 1")
TWICE = strategy_of(TWO, "fun f: o -> o. f (f 1)")
STOP = ("strategy", TWO, ())


class ReplyTest(unittest.TestCase):
    def test_to_the_beginning(self):
        self.assertEqual(reply(NOT, (BEGINNING,)), ask((0,), 0))
        self.assertEqual(reply(TWICE, (BEGINNING,)), ask((0,), 0))
        self.assertEqual(reply(strategy_of(O, "1"), (BEGINNING,)), say(1, 0))
        self.assertEqual(reply(strategy_of(BINARY, "fun x: o. fun y: o. y"), (BEGINNING,)), ask((1,), 0))

    def test_to_lone_sights(self):
        for kind, program in some_programs(22, 200, 10):
            strategy = meaning(kind, program)
            for sight, step in strategy[2]:
                self.assertEqual(reply(strategy, sight), step)

    def test_no_row_has_the_sight(self):
        self.assertIsNone(reply(STOP, (BEGINNING,)))
        self.assertIsNone(reply(STOP, ASKED + (say(1, 1),)))
        half = strategy_of(ONE, "fun x: o. if x then stop else 1")
        self.assertEqual(reply(half, ASKED + (say(0, 1),)), say(1, 0))
        self.assertIsNone(reply(half, ASKED + (say(1, 1),)))
        self.assertIsNone(reply(NOT, (BEGINNING, ask((0,), 0), say(1, 1), ask((0,), 0), say(1, 3))))

    def test_to_a_play_whose_steps_are_not_its_own(self):
        self.assertIsNone(reply(NOT, (BEGINNING, ask((1,), 0), say(1, 1))))
        # Its sight leaves the steps 2 and 3 out.
        self.assertEqual(
            reply(TWICE, ASKED + (ask((0, 0), 1), say(0, 2), say(1, 1))), say(1, 0),
        )

    def test_the_back_is_the_number_in_the_play(self):
        expected = {
            1: ask((0,), 0), 3: ask((0,), 0), 5: say(1, 4), 7: say(0, 2), 9: ask((0,), 0), 11: say(1, 8), 13: say(1, 0),
        }
        for many, step in expected.items():
            self.assertEqual(reply(TWICE, LONG[:many]), step)

    def test_backs_that_are_not_where_the_sight_alone_has_them(self):
        self.assertEqual(alone(LONG[:9] + (ask((0,), 0), ask((0, 0), 9)), (0, 1, 8, 9, 10))[4], ask((0, 0), 3))
        self.assertEqual(reply(TWICE, LONG[:9] + (ask((0,), 0), ask((0, 0), 9))), say(1, 10))

    def test_an_ask_that_answers_to_an_ask_within(self):
        strategy = strategy_of((TWO,), "fun g: (o -> o) -> o. g (fun x: o. if x then 0 else 1)")
        play = ASKED + (ask((0, 0), 1), ask((0, 0, 0), 2), say(1, 3))
        self.assertEqual(reply(strategy, play), say(0, 2))
        again = play + (say(0, 2), ask((0, 0), 1))
        self.assertEqual(reply(strategy, again), ask((0, 0, 0), 6))
        self.assertEqual(reply(strategy, again + (ask((0, 0, 0), 6), say(0, 7))), say(1, 6))

    def test_the_same_as_by_the_rule(self):
        told = {True: 0, False: 0}
        for kind, program in some_programs(23, 150, 12):
            strategy = meaning(kind, program)
            for play in some_plays(24, kind, 3, 13):
                for many in range(1, len(play) + 1, 2):
                    found = reply(strategy, play[:many])
                    self.assertEqual(found, reply_by_rule(strategy, play[:many]))
                    told[found is None] += 1
        self.assertGreater(told[True], 100)
        self.assertGreater(told[False], 100)

    def test_it_goes_on_legally_with_its_plays(self):
        for kind, program in some_programs(25, 150, 12):
            strategy = meaning(kind, program)
            for play in plays_of(strategy, 6):
                self.assertIsNone(fault_of(kind, play))


class FaultInTest(unittest.TestCase):
    def test_the_empty_play_and_the_beginning(self):
        for strategy in (NOT, TWICE, STOP):
            self.assertIsNone(fault_in(strategy, ()))
            self.assertIsNone(fault_in(strategy, (BEGINNING,)))

    def test_plays_of_the_strategy(self):
        for many in range(len(LONG) + 1):
            self.assertIsNone(fault_in(TWICE, LONG[:many]))
        self.assertIsNone(fault_in(NOT, ASKED + (say(0, 1), say(1, 0))))

    def test_another_step(self):
        self.assertEqual(fault_in(NOT, (BEGINNING, say(1, 0))), 1)
        self.assertEqual(fault_in(NOT, ASKED + (say(0, 1), say(0, 0))), 3)
        self.assertEqual(fault_in(NOT, ASKED + (say(0, 1), ask((0,), 0))), 3)
        self.assertEqual(fault_in(NOT, ASKED + (say(0, 1), ask((0,), 0), say(0, 3), say(1, 0))), 3)
        self.assertEqual(fault_in(TWICE, LONG[:13] + (say(0, 0),)), 13)
        self.assertEqual(fault_in(TWICE, LONG[:7] + (say(1, 2),)), 7)
        self.assertEqual(fault_in(TWICE, LONG[:11] + (say(0, 8), say(1, 1), say(0, 0))), 11)

    def test_another_back(self):
        strategy = strategy_of(THREE, "fun g: (o -> o) -> o. g (fun x: o. g (fun y: o. if x then y else 0))")
        play = ASKED + (ask((0, 0), 1), ask((0,), 0), ask((0, 0), 3), ask((0, 0, 0), 2))
        self.assertIsNone(fault_in(strategy, play))
        self.assertEqual(fault_in(strategy, play[:5] + (ask((0, 0, 0), 4),)), 5)

    def test_a_step_where_there_is_no_reply(self):
        self.assertEqual(fault_in(STOP, ASKED), 1)
        half = strategy_of(ONE, "fun x: o. if x then stop else 1")
        self.assertIsNone(fault_in(half, ASKED + (say(1, 1),)))
        self.assertEqual(fault_in(half, ASKED + (say(1, 1), say(1, 0))), 3)

    def test_the_same_as_by_the_rule(self):
        for kind, program in some_programs(26, 100, 8):
            strategy = meaning(kind, program)
            for play in some_plays(27, kind, 4, 12):
                wrong = [n for n in range(1, len(play), 2) if reply_by_rule(strategy, play[:n]) != play[n]]
                self.assertEqual(fault_in(strategy, play), wrong[0] if wrong else None)


class PlaysOfTest(unittest.TestCase):
    def test_no_steps(self):
        for strategy in (NOT, TWICE, STOP):
            self.assertEqual(plays_of(strategy, 0), ((),))
            self.assertEqual(plays_of(strategy, 1), ((),))
        for most in range(9):
            self.assertEqual(plays_of(STOP, most), ((),))

    def test_two_steps(self):
        self.assertEqual(plays_of(NOT, 2), ((), ASKED))
        self.assertEqual(plays_of(NOT, 3), ((), ASKED))
        self.assertEqual(plays_of(strategy_of(O, "0"), 2), ((), (BEGINNING, say(0, 0))))

    def test_all_of_few(self):
        self.assertEqual(plays_of(NOT, 4), (
            (), ASKED, ASKED + (say(0, 1), say(1, 0)), ASKED + (say(1, 1), say(0, 0)),
        ))
        for most in range(4, 9):
            self.assertEqual(plays_of(NOT, most), plays_of(NOT, 4))
        self.assertEqual(plays_of(strategy_of(ONE, "fun x: o. if x then stop else 1"), 8), (
            (), ASKED, ASKED + (say(0, 1), say(1, 0)),
        ))

    def test_the_asker_goes_back(self):
        inner = ASKED + (ask((0, 0), 1), ask((0,), 0))
        self.assertEqual(plays_of(TWICE, 6), (
            (),
            ASKED,
            inner,
            inner + (ask((0, 0), 3), say(1, 4)),
            inner + (say(0, 3), say(0, 2)),
            inner + (say(1, 3), say(1, 2)),
            ASKED + (say(0, 1), say(0, 0)),
            ASKED + (say(1, 1), say(1, 0)),
        ))
        eight = plays_of(TWICE, 8)
        self.assertIn(inner + (say(1, 3), say(1, 2), ask((0, 0), 1), ask((0,), 0)), eight)
        self.assertIn(inner + (say(1, 3), say(1, 2), say(0, 1), say(0, 0)), eight)
        self.assertEqual(len(eight), 17)

    def test_rising_of_even_length_and_at_most_so_long(self):
        for kind, program in some_programs(28, 120, 10):
            strategy = meaning(kind, program)
            longest = plays_of(strategy, 8)
            self.assertIsInstance(longest, tuple)
            self.assertEqual(longest, tuple(sorted(set(longest))))
            for most in range(9):
                self.assertEqual(plays_of(strategy, most), tuple(play for play in longest if len(play) <= most))
            for play in longest:
                self.assertEqual(len(play) % 2, 0)
                self.assertIsNone(fault_in(strategy, play))

    def test_they_are_all(self):
        legal = {kind: legal_plays(kind, 4) for kind in KINDS}
        for kind, program in some_programs(29, 60, 10):
            strategy = meaning(kind, program)
            expected = [play for play in legal[kind] if len(play) % 2 == 0 and fault_in(strategy, play) is None]
            self.assertEqual(plays_of(strategy, 4), tuple(sorted(expected)))

    def test_they_are_all_of_eight_steps(self):
        for kind in (TWO, THREE, (TWO, TWO), (BINARY, ONE)):
            strategy = meaning((kind,) + kind, handed(kind))
            found = [()]
            longest = [()]
            for _ in range(4):
                asked = [play + (step,) for play in longest for step in steps_by_trying(strategy[1], play)]
                longest = [play + (reply_by_rule(strategy, play),) for play in asked]
                found.extend(longest)
            self.assertEqual(plays_of(strategy, 8), tuple(sorted(found)))


if __name__ == "__main__":
    unittest.main()
