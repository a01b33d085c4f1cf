"""[l1], [l2]: the pairs that plays tell, and the least strategy that has them."""

import random
import unittest

from oracles import (
    BEGINNING, BINARY, KINDS, LONG, O, ONE, THREE, TWO, alone_by_rule, ask, program_sight_by_rule, say, some_plays,
    some_programs,
)
from playsense.learning import is_within, learned, pairs
from playsense.strategies import fault_in, is_strategy, meaning, plays_of, program_of
from talk_oracles import ASKED, FIRST, INNER, NOT, strategy_of

INNER_ASKED = INNER + (ask((0,), 0),)
# x is asked twice, and answers 1 and then 0; the last step is another one each time.
AGAIN = ASKED + (say(1, 1), ask((0,), 0), say(0, 3))


def pairs_by_words(play):
    found = []
    for n in range(1, len(play), 2):
        sight = program_sight_by_rule(play[:n])
        move, back = play[n]
        found.append((alone_by_rule(play[:n], sight), (move, sight.index(back))))
    return tuple(found)


def learned_by_words(kind, plays):
    told = []
    for j, play in enumerate(plays):
        for at, pair in enumerate(pairs_by_words(play)):
            for place, earlier in told:
                if earlier[0] == pair[0] and earlier[1] != pair[1]:
                    return ("disagree", place, (j, 2 * at + 1))
            told.append(((j, 2 * at + 1), pair))
    return ("program", ("strategy", kind, tuple(sorted({pair for _, pair in told}))))


class PairsTest(unittest.TestCase):
    def test_no_steps_of_the_program(self):
        self.assertEqual(pairs(()), ())
        self.assertEqual(pairs(FIRST), ())

    def test_one_step(self):
        self.assertEqual(pairs((BEGINNING, say(1, 0))), ((FIRST, say(1, 0)),))
        self.assertEqual(pairs(ASKED), ((FIRST, ask((0,), 0)),))
        self.assertEqual(pairs(INNER), pairs(ASKED))

    def test_several_steps(self):
        self.assertEqual(pairs(ASKED + (say(0, 1), say(1, 0))), (
            (FIRST, ask((0,), 0)), (ASKED + (say(0, 1),), say(1, 0)),
        ))
        self.assertEqual(pairs(AGAIN + (say(1, 0),)), (
            (FIRST, ask((0,), 0)), (ASKED + (say(1, 1),), ask((0,), 0)), (AGAIN, say(1, 0)),
        ))

    def test_in_the_order_of_the_steps_with_backs_of_the_sight(self):
        self.assertEqual(pairs(LONG), (
            (FIRST, ask((0,), 0)),
            (INNER, ask((0,), 0)),
            (INNER_ASKED + (ask((0, 0), 3),), say(1, 4)),
            (INNER_ASKED + (say(0, 3),), say(0, 2)),
            (INNER, ask((0,), 0)),
            (INNER_ASKED + (say(1, 3),), say(1, 2)),
            (ASKED + (say(1, 1),), say(1, 0)),
        ))

    def test_a_back_to_an_ask_that_is_not_the_last_of_its_sight(self):
        play = ASKED + (ask((0, 0), 1), ask((0,), 0), ask((0, 0), 3), ask((0, 0, 0), 2), say(0, 5), ask((0, 0, 0), 4))
        self.assertEqual(pairs(play)[2:], (
            (play[:5], ask((0, 0, 0), 2)), (play[:7], ask((0, 0, 0), 4)),
        ))
        # The asker goes back to the step 1: what is between is not seen.
        later = play[:6] + (ask((0, 0), 1), ask((0, 0, 0), 6))
        self.assertEqual(pairs(later)[3], (INNER, ask((0, 0, 0), 2)))

    def test_by_the_words(self):
        for kind in KINDS:
            for play in some_plays(42, kind, 8, 30):
                self.assertEqual(pairs(play), pairs_by_words(play))

    def test_of_plays_of_sixty_steps(self):
        play = FIRST
        while len(play) < 59:
            play += (ask((0,), 0), say(1, len(play)))
        play += (say(0, 0),)
        self.assertEqual(pairs(play), tuple((play[:n], play[n]) for n in range(1, 60, 2)))

    def test_all_pairs_are_rows_of_the_strategies_that_have_the_play(self):
        for kind, program in some_programs(43, 60, 10):
            strategy = meaning(kind, program)
            for play in some_plays(44, kind, 3, 10) + list(plays_of(strategy, 4)):
                has_all = all(pair in strategy[2] for pair in pairs(play))
                self.assertEqual(has_all, fault_in(strategy, play) is None)


class LearnedTest(unittest.TestCase):
    def assert_learned(self, kind, plays, rows):
        self.assertEqual(learned(kind, plays), ("program", ("strategy", kind, rows)))

    def assert_disagree(self, kind, plays, first, second):
        self.assertEqual(learned(kind, plays), ("disagree", first, second))

    def test_no_plays(self):
        for kind in KINDS:
            self.assert_learned(kind, (), ())
            self.assert_learned(kind, ((),), ())
            self.assert_learned(kind, (FIRST, (), FIRST), ())

    def test_one_play(self):
        self.assert_learned(ONE, (ASKED,), ((FIRST, ask((0,), 0)),))
        self.assert_learned(O, ((BEGINNING, say(0, 0)),), ((FIRST, say(0, 0)),))
        self.assert_learned(TWO, (LONG,), (
            (FIRST, ask((0,), 0)),
            (INNER, ask((0,), 0)),
            (INNER_ASKED + (ask((0, 0), 3),), say(1, 4)),
            (INNER_ASKED + (say(0, 3),), say(0, 2)),
            (INNER_ASKED + (say(1, 3),), say(1, 2)),
            (ASKED + (say(1, 1),), say(1, 0)),
        ))

    def test_only_the_rows_that_the_plays_tell(self):
        self.assert_learned(ONE, (ASKED + (say(0, 1), say(1, 0)),), NOT[2][:2])
        self.assert_learned(ONE, (ASKED + (say(1, 1), say(0, 0)),), (NOT[2][0], NOT[2][2]))

    def test_several_plays(self):
        plays = (ASKED + (say(1, 1), say(0, 0)), ASKED + (say(0, 1), say(1, 0)))
        self.assert_learned(ONE, plays, NOT[2])
        self.assert_learned(ONE, plays[::-1], NOT[2])

    def test_one_that_begins_another_and_the_same_one_twice(self):
        play = ASKED + (say(0, 1), say(1, 0))
        for many in range(5):
            self.assert_learned(ONE, (play[:many], play), NOT[2][:2])
            self.assert_learned(ONE, (play, play[:many]), NOT[2][:2])
        self.assert_learned(ONE, (play, play), NOT[2][:2])
        self.assert_learned(ONE, (play, play, play), NOT[2][:2])

    def test_the_kind_is_told(self):
        self.assert_learned(BINARY, (ASKED,), ((FIRST, ask((0,), 0)),))
        self.assert_learned((O, THREE), (ASKED,), ((FIRST, ask((0,), 0)),))

    def test_plays_that_disagree_in_their_first_step(self):
        self.assert_disagree(ONE, (ASKED, (BEGINNING, say(0, 0))), (0, 1), (1, 1))
        self.assert_disagree(O, ((BEGINNING, say(0, 0)), (BEGINNING, say(1, 0))), (0, 1), (1, 1))
        self.assert_disagree(BINARY, ((), ASKED, FIRST, (BEGINNING, ask((1,), 0))), (1, 1), (3, 1))

    def test_plays_that_disagree_in_their_last_step(self):
        self.assert_disagree(ONE, (AGAIN + (say(0, 0),), AGAIN + (say(1, 0),)), (0, 5), (1, 5))
        self.assert_disagree(ONE, (AGAIN + (say(0, 0),), AGAIN + (ask((0,), 0),)), (0, 5), (1, 5))
        self.assert_disagree(ONE, (AGAIN + (say(0, 0),), ASKED, AGAIN, AGAIN + (say(1, 0),)), (0, 5), (3, 5))

    def test_steps_that_differ_in_their_backs(self):
        play = ASKED + (ask((0, 0), 1), ask((0,), 0), ask((0, 0), 3))
        self.assert_disagree(
            THREE, (play + (ask((0, 0, 0), 2),), play + (ask((0, 0, 0), 4),)), (0, 5), (1, 5),
        )

    def test_one_play_that_disagrees_with_itself(self):
        # The argument asks its own argument again and is told something else.
        play = INNER + (say(0, 2), ask((0, 0), 1), say(1, 4))
        self.assert_disagree(TWO, (play,), (0, 3), (0, 5))
        self.assert_learned(TWO, (play[:5] + (say(0, 4),),), ((FIRST, ask((0,), 0)), (INNER, say(0, 2))))
        self.assert_disagree(TWO, (ASKED, play), (1, 3), (1, 5))

    def test_the_first_step_with_which_it_disagrees(self):
        play = INNER + (say(0, 2), ask((0, 0), 1), say(0, 4), ask((0, 0), 1), say(1, 6))
        self.assert_disagree(TWO, (play,), (0, 3), (0, 7))
        other = INNER + (say(1, 2),)
        self.assert_disagree(TWO, (FIRST, play[:4], play[:6], other), (1, 3), (3, 3))
        self.assert_disagree(TWO, (other, play), (0, 3), (1, 3))

    def test_the_first_step_that_disagrees(self):
        one = ASKED + (say(1, 1), say(1, 0))
        zero = ASKED + (say(0, 1), say(0, 0))
        plays = (one, zero, ASKED + (say(0, 1), say(1, 0)), ASKED + (say(1, 1), say(0, 0)), (BEGINNING, say(0, 0)))
        self.assert_disagree(ONE, plays, (1, 3), (2, 3))
        self.assert_disagree(ONE, (one, zero) + plays[3:], (0, 3), (2, 3))
        self.assert_disagree(ONE, (one, zero) + plays[4:], (0, 1), (2, 1))

    def test_what_is_seen_counts_and_not_the_whole_play(self):
        # Behind LONG's beginning the asker goes back, and the program sees what it saw before.
        before = LONG[:8] + (ask((0, 0), 1),)
        self.assert_disagree(TWO, (before + (say(0, 8),),), (0, 3), (0, 9))
        self.assert_disagree(TWO, (INNER + (say(1, 2),), LONG), (0, 3), (1, 3))
        # What lies between is not seen, and counts nothing.
        plays = (ASKED + (say(1, 1), say(1, 0)), INNER + (say(0, 2), say(1, 1), say(0, 0)))
        self.assert_disagree(TWO, plays, (0, 3), (1, 5))

    def test_by_the_words(self):
        told = {"program": 0, "disagree": 0}
        for kind in KINDS:
            plays = some_plays(45, kind, 12, 16)
            for many in range(len(plays)):
                for chosen in (plays[many:many + 2], plays[many:many + 3], [plays[many]]):
                    found = learned(kind, tuple(chosen))
                    self.assertEqual(found, learned_by_words(kind, chosen))
                    told[found[0]] += 1
        self.assertGreater(min(told.values()), 100)

    def test_the_least_one(self):
        chance = random.Random(46)
        for kind, program in some_programs(46, 150, 10):
            strategy = meaning(kind, program)
            plays = plays_of(strategy, 6)
            chosen = tuple(chance.sample(plays, min(len(plays), 3)))
            word, least = learned(kind, chosen)
            self.assertEqual(word, "program")
            self.assertIs(is_strategy(least), True)
            self.assertIs(is_within(least, strategy), True)
            self.assertEqual(set(least[2]), {pair for play in chosen for pair in pairs_by_words(play)})
            for play in chosen:
                self.assertIsNone(fault_in(least, play))

    def test_the_sights_of_a_strategy_tell_it_and_its_program(self):
        for kind, program in some_programs(47, 200, 12):
            strategy = meaning(kind, program)
            plays = tuple(sight + (step,) for sight, step in strategy[2])
            self.assertEqual(learned(kind, plays), ("program", strategy))
            self.assertEqual(program_of(learned(kind, plays[::-1])[1]), program)

    def test_the_whole_plays_of_a_strategy_tell_it_and_its_program(self):
        for text in ("fun f: o -> o. f (f 1)", "fun f: o -> o. if f 0 then f 1 else stop", "fun f: o -> o. 0"):
            strategy = strategy_of(TWO, text)
            plays = plays_of(strategy, 8)
            self.assertEqual(learned(TWO, plays), ("program", strategy))
            self.assertEqual(program_of(learned(TWO, plays)[1]), program_of(strategy))


if __name__ == "__main__":
    unittest.main()
