"""[g1], [g2], [g3]: plays, open asks and sights; steps_after and alone of the interface."""

import unittest

from oracles import (
    BEGINNING, BINARY, KINDS, LONG, O, ONE, THREE, TWO, ask, asker_sight_by_rule, is_open, legal_plays,
    program_sight_by_rule, say, some_plays, steps_by_trying,
)
from playsense.plays import alone, asker_sight, fault_of, open_asks, program_sight, steps_after


class SightsTest(unittest.TestCase):
    def test_the_play_of_one_step(self):
        self.assertEqual(program_sight((BEGINNING,)), (0,))

    def test_program_sights_of_the_beginnings_of_a_play(self):
        expected = {
            1: (0,), 3: (0, 1, 2), 5: (0, 1, 2, 3, 4), 7: (0, 1, 2, 3, 6), 9: (0, 1, 8), 11: (0, 1, 8, 9, 10),
            13: (0, 1, 12),
        }
        for many, sight in expected.items():
            self.assertEqual(program_sight(LONG[:many]), sight)

    def test_asker_sights_of_the_beginnings_of_a_play(self):
        expected = {
            2: (0, 1), 4: (0, 3), 6: (0, 3, 4, 5), 8: (0, 1, 2, 7), 10: (0, 9), 12: (0, 1, 2, 7, 8, 11), 14: (0, 13),
        }
        for many, sight in expected.items():
            self.assertEqual(asker_sight(LONG[:many]), sight)

    def test_by_their_rule(self):
        for kind in KINDS:
            for play in some_plays(11, kind, 12, 30):
                for many in range(1, len(play) + 1):
                    before = play[:many]
                    if many % 2 == 1:
                        self.assertEqual(program_sight(before), program_sight_by_rule(before))
                    else:
                        self.assertEqual(asker_sight(before), asker_sight_by_rule(before))

    def test_of_plays_of_hundreds_of_steps(self):
        # As long as talks may be, one ask behind the other.
        play = (BEGINNING,)
        while len(play) < 600:
            n = len(play)
            play += (ask((0,), 0), ask((0, 0), n))
        self.assertIsNone(fault_of(TWO, play))
        self.assertEqual(program_sight(play), tuple(range(601)))
        self.assertEqual(asker_sight(play + (ask((0,), 0),)), (0, 601))
        self.assertEqual(asker_sight(play + (ask((0,), 300),)), (0, 299, 300, 601))


class OpenAsksTest(unittest.TestCase):
    def test_of_no_steps(self):
        self.assertEqual(open_asks(()), ())

    def test_of_each_beginning_of_a_play(self):
        expected = (
            (), (0,), (0, 1), (0, 1, 2), (0, 1, 2, 3), (0, 1, 2, 3, 4), (0, 1, 2, 3), (0, 1, 2), (0, 1),
            (0, 1, 8), (0, 1, 8, 9), (0, 1, 8), (0, 1), (0,), (),
        )
        for many, numbers in enumerate(expected):
            self.assertEqual(open_asks(LONG[:many]), numbers)

    def test_an_ask_is_open_until_a_say_has_it_as_its_back(self):
        for kind in KINDS:
            for play in some_plays(12, kind, 12, 30):
                for many in range(len(play) + 1):
                    before = play[:many]
                    self.assertEqual(open_asks(before), tuple(n for n in range(many) if is_open(before, n)))


class StepsAfterTest(unittest.TestCase):
    def test_the_empty_play(self):
        for kind in (O, ONE, THREE):
            self.assertEqual(steps_after(kind, ()), (BEGINNING,))

    def test_a_play_that_ended(self):
        self.assertEqual(steps_after(O, (BEGINNING, say(1, 0))), ())
        self.assertEqual(steps_after(TWO, LONG), ())

    def test_the_programs_turn(self):
        self.assertEqual(steps_after(O, (BEGINNING,)), (say(0, 0), say(1, 0)))
        self.assertEqual(
            steps_after((O, ONE), (BEGINNING,)), (ask((0,), 0), ask((1,), 0), say(0, 0), say(1, 0)),
        )
        self.assertEqual(
            steps_after(((ONE, O),), (BEGINNING, ask((0,), 0), ask((0, 0), 1))),
            (ask((0,), 0), ask((0, 0, 0), 2), say(0, 2), say(1, 2)),
        )

    def test_the_askers_turn(self):
        self.assertEqual(steps_after(ONE, (BEGINNING, ask((0,), 0))), (say(0, 1), say(1, 1)))
        self.assertEqual(
            steps_after((BINARY,), (BEGINNING, ask((0,), 0))),
            (ask((0, 0), 1), ask((0, 1), 1), say(0, 1), say(1, 1)),
        )
        # Behind the answer to its ask the asker goes on from the ask 1, of which it sees the rest.
        self.assertEqual(
            steps_after(TWO, (BEGINNING, ask((0,), 0), ask((0, 0), 1), say(1, 2))),
            (ask((0, 0), 1), say(0, 1), say(1, 1)),
        )

    def test_steps_with_the_same_move_and_several_backs(self):
        play = (BEGINNING, ask((0,), 0), ask((0, 0), 1), ask((0,), 0), ask((0, 0), 3))
        self.assertEqual(
            steps_after((((O, O),),), play),
            (ask((0,), 0), ask((0, 0, 0), 2), ask((0, 0, 0), 4), ask((0, 0, 1), 2), ask((0, 0, 1), 4),
             say(0, 4), say(1, 4)),
        )

    def test_what_is_not_seen_is_not_answered(self):
        play = LONG[:4]
        self.assertEqual(asker_sight(play), (0, 3))
        self.assertEqual(steps_after(TWO, play), (ask((0, 0), 3), say(0, 3), say(1, 3)))

    def test_more_than_ten_steps_are_in_the_order_of_tuples(self):
        play = (BEGINNING,)
        for _ in range(7):
            play += (ask((0,), 0), ask((0, 0), len(play)))
        backs = [step[1] for step in steps_after((((O, O),),), play)]
        self.assertEqual(backs, [0, 2, 4, 6, 8, 10, 12, 14, 2, 4, 6, 8, 10, 12, 14, 14, 14])

    def test_all_and_only_the_legal_ones_rising(self):
        for kind in KINDS:
            for play in some_plays(13, kind, 8, 24):
                for many in range(len(play) + 1):
                    before = play[:many]
                    found = steps_after(kind, before)
                    self.assertIsInstance(found, tuple)
                    self.assertEqual(found, tuple(sorted(steps_by_trying(kind, before))))

    def test_they_lead_to_all_legal_plays(self):
        for kind, most in ((O, 4), (ONE, 5), (TWO, 5), ((ONE, O), 5), (THREE, 5)):
            found = [()]
            longest = [()]
            for _ in range(most):
                longest = [play + (step,) for play in longest for step in steps_after(kind, play)]
                found.extend(longest)
            self.assertEqual(sorted(found), sorted(legal_plays(kind, most)))
            for play in found:
                self.assertIsNone(fault_of(kind, play))


class AloneTest(unittest.TestCase):
    def test_all_numbers(self):
        for many in range(len(LONG) + 1):
            self.assertEqual(alone(LONG[:many], tuple(range(many))), LONG[:many])

    def test_no_numbers(self):
        self.assertEqual(alone(LONG, ()), ())
        self.assertEqual(alone((), ()), ())

    def test_the_step_0(self):
        self.assertEqual(alone(LONG, (0,)), (BEGINNING,))

    def test_backs_are_numbered_anew(self):
        self.assertEqual(
            alone(LONG, (0, 1, 8, 9, 10)), (BEGINNING, ask((0,), 0), ask((0, 0), 1), ask((0,), 0), say(1, 3)),
        )
        self.assertEqual(alone(LONG, (0, 9, 10)), (BEGINNING, ask((0,), 0), say(1, 1)))
        self.assertEqual(alone(LONG, (0, 3, 4, 5, 6)), (
            BEGINNING, ask((0,), 0), ask((0, 0), 1), say(1, 2), say(0, 1),
        ))
        self.assertEqual(alone(LONG, (0, 1, 2, 7, 13)), (
            BEGINNING, ask((0,), 0), ask((0, 0), 1), say(0, 2), say(1, 0),
        ))

    def test_a_sight_is_a_legal_play(self):
        for kind in KINDS:
            for play in some_plays(14, kind, 8, 24):
                for many in range(1, len(play) + 1, 2):
                    before = play[:many]
                    sight = program_sight(before)
                    told = alone(before, sight)
                    self.assertIsNone(fault_of(kind, told))
                    self.assertEqual(program_sight(told), tuple(range(len(sight))))
                    self.assertEqual([step[0] for step in told], [before[n][0] for n in sight])
                    self.assertEqual([sight[step[1]] for step in told[1:]], [before[n][1] for n in sight[1:]])


if __name__ == "__main__":
    unittest.main()
