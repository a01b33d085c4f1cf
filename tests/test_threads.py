"""[a1]: threads, threads told alone, and what a talk shows without those of an argument."""

import unittest

from oracles import BEGINNING, BINARY, KINDS, LONG, O, ONE, TWO, alone_by_rule, ask, say, some_plays
from playsense.plays import fault_of
from playsense.talks import seen, thread, told_alone
from talk_oracles import beginning_of_thread, told_alone_by_words, thread_by_words, without

# fun f: o -> o. fun g: o -> o. fun x: o. f (g x), f and g being fun y: o. if y then 0 else 1, and x being 1.
WITHIN = (
    BEGINNING,
    ask((0,), 0),
    ask((0, 0), 1),
    ask((1,), 0),
    ask((1, 0), 3),
    ask((2,), 0),
    say(1, 5),
    say(1, 4),
    say(0, 3),
    say(0, 2),
    say(1, 1),
    say(1, 0),
)
# A play of the kind ((o -> o) -> o) -> o whose argument asks back within a second thread of it.
BACK = (
    BEGINNING,
    ask((0,), 0),
    ask((0, 0), 1),
    ask((0,), 0),
    ask((0, 0), 3),
    ask((0, 0, 0), 2),
    ask((0, 0), 1),
    ask((0, 0, 0), 4),
    say(1, 7),
    ask((0, 0, 0), 6),
)
PLAYS = [(kind, play) for kind in KINDS + ((ONE, TWO, O), (BINARY, ONE, ONE)) for play in some_plays(31, kind, 8, 30)]


def beginnings(play):
    return [n for n in range(len(play)) if beginning_of_thread(play, n) == n]


def moved(move, k):
    """A move of a kind as one of the kind without the argument k."""
    word, what = move
    if word == "ask" and what != () and what[0] > k:
        return (word, (what[0] - 1,) + what[1:])
    return move


class ThreadTest(unittest.TestCase):
    def test_one_step(self):
        self.assertEqual(thread((BEGINNING, ask((0,), 0)), 1), (1,))
        self.assertEqual(thread(WITHIN[:4], 3), (3,))
        self.assertEqual(thread(WITHIN[:6], 5), (5,))

    def test_threads_of_different_arguments_within_one_another(self):
        self.assertEqual(thread(WITHIN, 1), (1, 2, 9, 10))
        self.assertEqual(thread(WITHIN, 3), (3, 4, 7, 8))
        self.assertEqual(thread(WITHIN, 5), (5, 6))

    def test_several_threads_of_one_argument(self):
        self.assertEqual(thread(LONG, 1), (1, 2, 7, 8, 11, 12))
        self.assertEqual(thread(LONG, 3), (3, 4, 5, 6))
        self.assertEqual(thread(LONG, 9), (9, 10))

    def test_one_behind_the_other(self):
        play = (BEGINNING, ask((1,), 0), say(0, 1), ask((0,), 0), say(1, 3), ask((1,), 0), say(0, 5), say(1, 0))
        self.assertEqual([thread(play, n) for n in (1, 3, 5)], [(1, 2), (3, 4), (5, 6)])

    def test_backs_that_lead_to_it_by_others(self):
        self.assertEqual(thread(BACK, 1), (1, 2, 5, 6, 9))
        self.assertEqual(thread(BACK, 3), (3, 4, 7, 8))

    def test_the_step_0_and_the_answer_to_it_are_in_none(self):
        for play in (WITHIN, LONG):
            found = sorted(number for n in beginnings(play) for number in thread(play, n))
            self.assertEqual(found, list(range(1, len(play) - 1)))

    def test_by_the_words(self):
        for _, play in PLAYS:
            for n in beginnings(play):
                self.assertEqual(thread(play, n), thread_by_words(play, n))

    def test_of_a_long_play(self):
        play = (BEGINNING,) + tuple(step for n in range(1, 400, 2) for step in (ask((0,), 0), say(1, n)))
        self.assertEqual([thread(play, n) for n in range(1, 400, 2)], [(n, n + 1) for n in range(1, 400, 2)])


class ToldAloneTest(unittest.TestCase):
    def test_one_step(self):
        self.assertEqual(told_alone((BEGINNING, ask((0,), 0)), 1), (BEGINNING,))
        self.assertEqual(told_alone(WITHIN[:4], 3), (BEGINNING,))

    def test_places_without_their_first_number_and_backs_numbered_anew(self):
        for n in (1, 3):
            answer = 0 if n == 1 else 1
            self.assertEqual(
                told_alone(WITHIN, n), (BEGINNING, ask((0,), 0), say(answer, 1), say(1 - answer, 0)),
            )
        self.assertEqual(told_alone(WITHIN, 5), (BEGINNING, say(1, 0)))

    def test_several_threads_of_one_argument(self):
        self.assertEqual(told_alone(LONG, 1), (
            BEGINNING, ask((0,), 0), say(0, 1), ask((0,), 0), say(1, 3), say(1, 0),
        ))
        self.assertEqual(told_alone(LONG, 3), (BEGINNING, ask((0,), 0), say(1, 1), say(0, 0)))
        self.assertEqual(told_alone(LONG, 9), (BEGINNING, say(1, 0)))

    def test_longer_places(self):
        self.assertEqual(told_alone(BACK, 1), (
            BEGINNING, ask((0,), 0), ask((0, 0), 1), ask((0,), 0), ask((0, 0), 3),
        ))
        self.assertEqual(told_alone(BACK, 3), (BEGINNING, ask((0,), 0), ask((0, 0), 1), say(1, 2)))

    def test_the_first_number_alone_is_left_out(self):
        play = (BEGINNING, ask((2,), 0), ask((2, 1), 1), ask((2, 1, 2), 2), say(1, 3))
        self.assertEqual(told_alone(play, 1), (BEGINNING, ask((1,), 0), ask((1, 2), 1), say(1, 2)))

    def test_by_the_words(self):
        many = 0
        for kind, play in PLAYS:
            for n in beginnings(play):
                told = told_alone(play, n)
                self.assertEqual(told, told_alone_by_words(play, n))
                self.assertIsNone(fault_of(kind[play[n][0][1][0]], told))
                many += len(told) > 4
        self.assertGreater(many, 50)


class SeenTest(unittest.TestCase):
    def test_no_steps(self):
        self.assertEqual(seen((), 0), ())
        self.assertEqual(seen((), 3), ())

    def test_the_beginning(self):
        for k in range(4):
            self.assertEqual(seen((BEGINNING,), k), (BEGINNING,))
            self.assertEqual(seen((BEGINNING, say(1, 0)), k), (BEGINNING, say(1, 0)))

    def test_the_first_argument(self):
        self.assertEqual(seen(WITHIN, 0), (
            BEGINNING, ask((0,), 0), ask((0, 0), 1), ask((1,), 0), say(1, 3), say(1, 2), say(0, 1), say(1, 0),
        ))

    def test_a_middle_argument(self):
        self.assertEqual(seen(WITHIN, 1), (
            BEGINNING, ask((0,), 0), ask((0, 0), 1), ask((1,), 0), say(1, 3), say(0, 2), say(1, 1), say(1, 0),
        ))

    def test_the_last_argument(self):
        self.assertEqual(seen(WITHIN, 2), (
            BEGINNING, ask((0,), 0), ask((0, 0), 1), ask((1,), 0), ask((1, 0), 3), say(1, 4), say(0, 3), say(0, 2),
            say(1, 1), say(1, 0),
        ))

    def test_the_first_number_alone_is_told_anew(self):
        play = (BEGINNING, ask((3,), 0), ask((3, 3), 1), ask((3, 3, 3), 2))
        self.assertEqual(seen(play, 2), (BEGINNING, ask((2,), 0), ask((2, 3), 1), ask((2, 3, 3), 2)))
        self.assertEqual(seen(play, 0), seen(play, 2))
        self.assertEqual(seen(play, 3), (BEGINNING,))

    def test_the_only_argument(self):
        for play, shown in ((LONG, (BEGINNING, say(1, 0))), (LONG[:-1], (BEGINNING,)), (BACK, (BEGINNING,))):
            self.assertEqual(seen(play, 0), shown)

    def test_an_argument_that_is_not_asked(self):
        play = (BEGINNING, ask((1,), 0), say(1, 1), say(0, 0))
        self.assertEqual(seen(play, 2), play)
        self.assertEqual(seen(play, 0), (BEGINNING, ask((0,), 0), say(1, 1), say(0, 0)))

    def test_by_the_words(self):
        for kind, play in PLAYS:
            for k in range(len(kind)):
                hidden = [n for n in beginnings(play) if play[n][0][1] == (k,)]
                numbers = [n for n in range(len(play)) if beginning_of_thread(play, n) not in hidden]
                shown = tuple((moved(move, k), back) for move, back in alone_by_rule(play, numbers))
                self.assertEqual(seen(play, k), shown)
                self.assertIsNone(fault_of(without(kind, k), shown))

    def test_of_plays_of_two_hundred_steps(self):
        play = (BEGINNING,)
        for k in (2, 0, 1, 1) * 25:
            play += (ask((k,), 0), say(1, len(play)))
        self.assertEqual(seen(play, 1), (BEGINNING,) + tuple(
            step for at in range(50) for step in (ask((1 - at % 2,), 0), say(1, 2 * at + 1))
        ))


if __name__ == "__main__":
    unittest.main()
