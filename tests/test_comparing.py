"""[l2] and the interface: strategies within others, what two have in common, joined ones, and where they differ."""

import random
import unittest

from oracles import BINARY, KINDS, O, ONE, TWO, ask, random_program, say, some_programs
from playsense.learning import apart, common, is_within, joined
from playsense.strategies import is_strategy, meaning
from talk_oracles import ASKED, FIRST, INNER, NOT, strategy_of

SAME = strategy_of(ONE, "fun x: o. x")
ZERO = strategy_of(ONE, "fun x: o. 0")
IF_0 = strategy_of(ONE, "fun x: o. if x then stop else 1")
IF_1 = strategy_of(ONE, "fun x: o. if x then 0 else stop")
NEVER = strategy_of(ONE, "fun x: o. if x then stop else stop")
NONE = ("strategy", ONE, ())
SOME = (NOT, SAME, ZERO, IF_0, IF_1, NEVER, NONE)
BEHIND_0 = ASKED + (say(0, 1),)
BEHIND_1 = ASKED + (say(1, 1),)


def pairs_of_strategies(seed, many):
    """Pairs of strategies of a kind, that often have rows in common."""
    chance = random.Random(seed)
    found = []
    for kind, program in some_programs(seed, many, 8):
        strategy = meaning(kind, program)
        found.append((strategy, meaning(kind, random_program(chance, kind, 8))))
        found.append((pruned(chance, strategy), pruned(chance, strategy)))
        other = changed(chance, strategy)
        found.append((strategy, other))
        found.append((pruned(chance, other), strategy))
    return found


def pruned(chance, strategy):
    """A strategy without some row and those behind it."""
    word, kind, rows = strategy
    if not rows:
        return strategy
    sight = chance.choice(rows)[0]
    return (word, kind, tuple(row for row in rows if row[0][:len(sight)] != sight))


def changed(chance, strategy):
    """A strategy that says something else at one of its sights."""
    word, kind, rows = strategy
    said = [row for row in rows if row[1][0][0] == "say"]
    if not said:
        return strategy
    sight, ((_, answer), back) = chance.choice(said)
    return (word, kind, tuple((s, say(1 - answer, back)) if s == sight else (s, step) for s, step in rows))


class IsWithinTest(unittest.TestCase):
    def test_itself(self):
        for strategy in SOME:
            self.assertIs(is_within(strategy, strategy), True)

    def test_without_rows(self):
        for strategy in SOME:
            self.assertIs(is_within(NONE, strategy), True)
            self.assertIs(is_within(strategy, NONE), strategy == NONE)

    def test_fewer_rows(self):
        for smaller in (IF_0, IF_1, NEVER):
            self.assertIs(is_within(smaller, NOT), True)
            self.assertIs(is_within(NOT, smaller), False)
        self.assertIs(is_within(NEVER, SAME), True)
        self.assertIs(is_within(IF_0, IF_1), False)

    def test_other_steps_at_the_same_sights(self):
        self.assertIs(is_within(NOT, SAME), False)
        self.assertIs(is_within(IF_0, SAME), False)
        self.assertIs(is_within(ZERO, SAME), False)
        self.assertIs(is_within(SAME, ZERO), False)

    def test_of_other_kinds(self):
        self.assertIs(is_within(NOT, ("strategy", BINARY, NOT[2])), True)
        self.assertIs(is_within(("strategy", (TWO, O), NOT[2]), NOT), True)
        self.assertIs(is_within(("strategy", BINARY, ()), strategy_of(O, "1")), True)
        self.assertIs(is_within(NOT, strategy_of(BINARY, "fun x: o. fun y: o. y")), False)

    def test_by_the_words(self):
        told = {True: 0, False: 0}
        for strategy, other in pairs_of_strategies(48, 150):
            expected = all(row in other[2] for row in strategy[2])
            self.assertIs(is_within(strategy, other), expected)
            told[expected] += 1
        self.assertGreater(min(told.values()), 100)


class CommonTest(unittest.TestCase):
    def test_with_itself(self):
        for strategy in SOME:
            self.assertEqual(common(strategy, strategy), strategy)

    def test_without_rows(self):
        for strategy in SOME:
            self.assertEqual(common(strategy, NONE), NONE)
            self.assertEqual(common(NONE, strategy), NONE)
        for kind in KINDS:
            self.assertEqual(common(("strategy", kind, ()), ("strategy", kind, ())), ("strategy", kind, ()))

    def test_the_rows_that_both_have(self):
        self.assertEqual(common(NOT, IF_0), IF_0)
        self.assertEqual(common(IF_1, NOT), IF_1)
        self.assertEqual(common(IF_0, IF_1), NEVER)
        self.assertEqual(common(NOT, SAME), NEVER)
        self.assertEqual(common(NOT, ZERO), NONE)

    def test_by_the_words(self):
        for strategy, other in pairs_of_strategies(49, 150):
            rows = tuple(row for row in strategy[2] if row in other[2])
            self.assertEqual(common(strategy, other), ("strategy", strategy[1], rows))
            self.assertEqual(common(other, strategy), ("strategy", strategy[1], rows))
            self.assertIs(is_strategy(common(strategy, other)), True)


class JoinedTest(unittest.TestCase):
    def test_with_itself(self):
        for strategy in SOME:
            self.assertEqual(joined(strategy, strategy), ("program", strategy))

    def test_without_rows(self):
        for strategy in SOME:
            self.assertEqual(joined(strategy, NONE), ("program", strategy))
            self.assertEqual(joined(NONE, strategy), ("program", strategy))

    def test_the_rows_of_both(self):
        self.assertEqual(joined(IF_0, IF_1), ("program", NOT))
        self.assertEqual(joined(IF_1, IF_0), ("program", NOT))
        self.assertEqual(joined(NEVER, IF_1), ("program", IF_1))
        self.assertEqual(joined(NOT, IF_1), ("program", NOT))

    def test_they_disagree(self):
        self.assertEqual(joined(NOT, ZERO), ("disagree", FIRST, ask((0,), 0), say(0, 0)))
        self.assertEqual(joined(ZERO, NOT), ("disagree", FIRST, say(0, 0), ask((0,), 0)))
        self.assertEqual(joined(IF_0, SAME), ("disagree", BEHIND_0, say(1, 0), say(0, 0)))
        self.assertEqual(joined(SAME, IF_1), ("disagree", BEHIND_1, say(1, 0), say(0, 0)))

    def test_the_least_sight(self):
        self.assertEqual(joined(NOT, SAME), ("disagree", BEHIND_0, say(1, 0), say(0, 0)))
        self.assertEqual(joined(SAME, NOT), ("disagree", BEHIND_0, say(0, 0), say(1, 0)))
        one = strategy_of(TWO, "fun f: o -> o. if f 0 then 0 else 1")
        other = strategy_of(TWO, "fun f: o -> o. if f 1 then 1 else 0")
        self.assertEqual(joined(one, other), ("disagree", INNER, say(0, 2), say(1, 2)))

    def test_a_sight_that_one_has_not(self):
        self.assertEqual(joined(IF_1, SAME), ("disagree", BEHIND_1, say(0, 0), say(1, 0)))
        self.assertEqual(joined(SAME, IF_1), ("disagree", BEHIND_1, say(1, 0), say(0, 0)))

    def test_by_the_words(self):
        told = {"program": 0, "disagree": 0}
        for strategy, other in pairs_of_strategies(50, 150):
            against = [(s, step, other_step) for s, step in strategy[2] for t, other_step in other[2]
                       if s == t and step != other_step]
            if against:
                expected = ("disagree", *min(against))
            else:
                expected = ("program", ("strategy", strategy[1], tuple(sorted({*strategy[2], *other[2]}))))
                self.assertIs(is_strategy(expected[1]), True)
            self.assertEqual(joined(strategy, other), expected)
            told[expected[0]] += 1
        self.assertGreater(min(told.values()), 100)


class ApartTest(unittest.TestCase):
    def test_the_same_rows(self):
        for strategy in SOME:
            self.assertIsNone(apart(strategy, strategy))
        for kind in KINDS:
            self.assertIsNone(apart(("strategy", kind, ()), ("strategy", kind, ())))

    def test_without_rows(self):
        self.assertEqual(apart(NONE, NOT), (FIRST, None, ask((0,), 0)))
        self.assertEqual(apart(NOT, NONE), (FIRST, ask((0,), 0), None))
        self.assertEqual(apart(ZERO, NONE), (FIRST, say(0, 0), None))

    def test_other_steps(self):
        self.assertEqual(apart(NOT, ZERO), (FIRST, ask((0,), 0), say(0, 0)))
        self.assertEqual(apart(NOT, SAME), (BEHIND_0, say(1, 0), say(0, 0)))
        self.assertEqual(apart(SAME, NOT), (BEHIND_0, say(0, 0), say(1, 0)))

    def test_a_step_that_is_not_there(self):
        self.assertEqual(apart(NOT, IF_0), (BEHIND_1, say(0, 0), None))
        self.assertEqual(apart(IF_0, NOT), (BEHIND_1, None, say(0, 0)))
        self.assertEqual(apart(IF_1, NOT), (BEHIND_0, None, say(1, 0)))

    def test_the_least_sight_of_all(self):
        self.assertEqual(apart(IF_0, IF_1), (BEHIND_0, say(1, 0), None))
        self.assertEqual(apart(IF_1, IF_0), (BEHIND_0, None, say(1, 0)))
        # A row that one has not stands ahead of one at which they disagree.
        self.assertEqual(apart(SAME, IF_1), (BEHIND_0, say(0, 0), None))
        self.assertEqual(apart(IF_1, SAME), (BEHIND_0, None, say(0, 0)))
        self.assertEqual(joined(IF_1, SAME)[1], BEHIND_1)

    def test_by_the_words(self):
        told = {"both": 0, "one": 0}
        for strategy, other in pairs_of_strategies(51, 150):
            rows, other_rows = dict(strategy[2]), dict(other[2])
            against = sorted(s for s in {**rows, **other_rows} if rows.get(s) != other_rows.get(s))
            found = apart(strategy, other)
            if not against:
                self.assertIsNone(found)
                continue
            self.assertEqual(found, (against[0], rows.get(against[0]), other_rows.get(against[0])))
            told["one" if None in found else "both"] += 1
        self.assertGreater(min(told.values()), 50)


if __name__ == "__main__":
    unittest.main()
