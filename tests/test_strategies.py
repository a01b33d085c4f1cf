"""[s1], [s2]: lone sights and strategies; [s3], [s4]: the meaning of a program, and the program of a meaning."""

import random
import unittest

from oracles import BEGINNING, BINARY, KINDS, O, ONE, THREE, TWO, ask, rows_by_rule, say, some_programs
from playsense.normal import normal
from playsense.plays import fault_of
from playsense.programs import asks, is_program
from playsense.strategies import is_strategy, meaning, program_of
from playsense.terms import read

FIRST = (BEGINNING,)
ASKED = FIRST + (ask((0,), 0),)
# fun x: o. if x then 0 else 1
NOT_ROWS = (
    (FIRST, ask((0,), 0)),
    (ASKED + (say(0, 1),), say(1, 0)),
    (ASKED + (say(1, 1),), say(0, 0)),
)
# fun f: o -> o. f (f 1)
INNER = ASKED + (ask((0, 0), 1),)
INNER_ASKED = INNER + (ask((0,), 0),)
TWICE_ROWS = (
    (FIRST, ask((0,), 0)),
    (INNER, ask((0,), 0)),
    (INNER_ASKED + (ask((0, 0), 3),), say(1, 4)),
    (INNER_ASKED + (say(0, 3),), say(0, 2)),
    (INNER_ASKED + (say(1, 3),), say(1, 2)),
    (ASKED + (say(0, 1),), say(0, 0)),
    (ASKED + (say(1, 1),), say(1, 0)),
)


def strategy_of(kind, text):
    return meaning(kind, normal(read(text)))


class IsStrategyTest(unittest.TestCase):
    def assert_strategy(self, kind, rows):
        self.assertIs(is_strategy(("strategy", kind, rows)), True, rows)

    def assert_none(self, value):
        self.assertIs(is_strategy(value), False, value)

    def assert_no_rows(self, kind, rows):
        self.assert_none(("strategy", kind, rows))

    def test_no_rows(self):
        for kind in KINDS:
            self.assert_strategy(kind, ())

    def test_one_row(self):
        for answer in (0, 1):
            self.assert_strategy(O, ((FIRST, say(answer, 0)),))
        self.assert_strategy(ONE, ((FIRST, ask((0,), 0)),))
        self.assert_strategy(BINARY, ((FIRST, ask((1,), 0)),))

    def test_several_rows(self):
        self.assert_strategy(ONE, NOT_ROWS)
        self.assert_strategy(TWO, TWICE_ROWS)

    def test_rows_behind_a_row_may_be_left_out(self):
        self.assert_strategy(ONE, NOT_ROWS[:2])
        self.assert_strategy(ONE, NOT_ROWS[:1] + NOT_ROWS[2:])
        self.assert_strategy(TWO, TWICE_ROWS[:1] + TWICE_ROWS[5:])
        self.assert_strategy(TWO, TWICE_ROWS[:2] + TWICE_ROWS[3:])

    def test_rows_that_others_go_on_from_may_not(self):
        self.assert_no_rows(ONE, NOT_ROWS[1:])
        self.assert_no_rows(TWO, TWICE_ROWS[1:])
        self.assert_no_rows(TWO, TWICE_ROWS[:1] + TWICE_ROWS[2:])
        self.assert_no_rows(TWO, TWICE_ROWS[2:3])
        for left_out in range(len(TWICE_ROWS)):
            rows = TWICE_ROWS[:left_out] + TWICE_ROWS[left_out + 1:]
            self.assertIs(is_strategy(("strategy", TWO, rows)), left_out > 1)

    def test_rows_behind_another_step_than_that_of_their_row(self):
        self.assert_no_rows(BINARY, ((FIRST, ask((1,), 0)),) + NOT_ROWS[1:])
        self.assert_no_rows(BINARY, ((FIRST, say(1, 0)),) + NOT_ROWS[1:])
        self.assert_no_rows((ONE, ONE), TWICE_ROWS[:1] + ((INNER, ask((1,), 0)),) + TWICE_ROWS[2:])
        self.assert_strategy((ONE, ONE), TWICE_ROWS)

    def test_doubled_rows(self):
        self.assert_no_rows(O, ((FIRST, say(0, 0)), (FIRST, say(0, 0))))
        self.assert_no_rows(O, ((FIRST, say(0, 0)), (FIRST, say(1, 0))))
        for k in range(3):
            self.assert_no_rows(ONE, NOT_ROWS[:k + 1] + NOT_ROWS[k:])

    def test_rows_out_of_order(self):
        self.assert_no_rows(ONE, NOT_ROWS[::-1])
        for first in range(len(TWICE_ROWS)):
            for second in range(first):
                rows = list(TWICE_ROWS)
                rows[first], rows[second] = rows[second], rows[first]
                self.assert_no_rows(TWO, tuple(rows))

    def test_rows_that_are_no_pairs(self):
        sight, step = NOT_ROWS[0]
        for row in (None, 0, True, "", "ab", (), (sight,), (sight, step, step), [sight, step], sight, step,
                    (list(sight), step), (sight, list(step)), (step, sight), (None, step), (sight, None), ("a", "b"),
                    {sight: step}, ([], step), ({}, step), ((), step), ((), BEGINNING)):
            self.assert_no_rows(ONE, (row,))
            self.assert_no_rows(ONE, (row,) + NOT_ROWS)
            self.assert_no_rows(ONE, (row,) + NOT_ROWS[1:])
            self.assert_no_rows(ONE, NOT_ROWS[:2] + (row,))

    def test_sights_that_are_no_lone_sights(self):
        # Of even length, or none.
        self.assert_no_rows(ONE, (((), BEGINNING),))
        self.assert_no_rows(ONE, (NOT_ROWS[0], (ASKED, say(1, 1))))
        # Not legal.
        self.assert_no_rows(ONE, (((say(0, 0),), ask((0,), 0)),))
        self.assert_no_rows(ONE, ((("x",), ask((0,), 0)),))
        self.assert_no_rows(ONE, (NOT_ROWS[0], (ASKED + (say(2, 1),), say(0, 0))))
        self.assert_no_rows(ONE, (NOT_ROWS[0], (ASKED + (ask((0, 0), 1),), say(0, 2))))
        self.assert_no_rows(ONE, (NOT_ROWS[0], (ASKED + (say(True, 1),), say(0, 0))))
        self.assert_no_rows(ONE, (NOT_ROWS[0], (ASKED + ([("say", 0), 1],), say(0, 0))))
        self.assert_no_rows(ONE, (NOT_ROWS[0], (ASKED + (None,), say(0, 0))))

    def test_a_legal_play_in_which_the_asker_goes_back_is_no_lone_sight(self):
        sight = INNER + (say(1, 2), ask((0, 0), 1))
        self.assertIsNone(fault_of(TWO, sight + (say(1, 4),)))
        rows = ((FIRST, ask((0,), 0)), (INNER, say(1, 2)), (sight, say(1, 4)))
        self.assert_no_rows(TWO, rows)
        self.assert_strategy(TWO, rows[:2])

    def test_steps_that_are_not_legal(self):
        for step in (None, BEGINNING, say(2, 0), say(0, 1), say(True, 0), ask((1,), 0), ask((), 0), ask((0, 0), 0),
                     ask((0,), 1), ask((0,), None), ask([0], 0), (("say", 0), 0, 0), (("say", 0),), ["say", 0], "say"):
            self.assert_no_rows(ONE, ((FIRST, step),))
        for step in (say(0, 1), say(0, 3), ask((0,), 2), ask((0, 0), 1), say(0, -1), say(0, None)):
            self.assert_no_rows(TWO, ((FIRST, ask((0,), 0)), (ASKED + (say(0, 1),), step)))
        # Not the last open ask.
        self.assert_no_rows(TWO, TWICE_ROWS[:1] + ((INNER, say(1, 0)),))

    def test_another_kind(self):
        self.assert_no_rows(O, NOT_ROWS)
        self.assert_no_rows(ONE, TWICE_ROWS)
        self.assert_strategy(BINARY, NOT_ROWS)
        self.assert_strategy((O, TWO), NOT_ROWS)
        self.assert_no_rows((TWO, O), (NOT_ROWS[0], (ASKED + (ask((0, 1), 1),), say(0, 2))))
        for kind in (None, [], [O], 0, "o", (None,), ([],), (O, 0), ("o",), {}):
            self.assert_no_rows(kind, ())
            self.assert_no_rows(kind, NOT_ROWS)

    def test_values_of_any_other_shape(self):
        for value in (None, 0, 1, True, "", "strategy", b"strategy", [], {}, set(), object(), (), ("strategy",),
                      ("strategy", ONE), ("strategy", ONE, NOT_ROWS, ()), ["strategy", ONE, NOT_ROWS],
                      ("Strategy", ONE, NOT_ROWS), ("program", ONE, NOT_ROWS), (None, ONE, NOT_ROWS),
                      (ONE, "strategy", NOT_ROWS), ("strategy", NOT_ROWS, ONE), NOT_ROWS, NOT_ROWS[0],
                      ("strategy", ONE, list(NOT_ROWS)), ("strategy", ONE, dict(NOT_ROWS)), ("strategy", ONE, None),
                      ("strategy", ONE, "rows"), ("strategy", ONE, 0), (("strategy", ONE, NOT_ROWS),),
                      ("program", 1, ("say", 1)), (["strategy"], ONE, NOT_ROWS)):
            self.assert_none(value)

    def test_deep_values(self):
        value = ()
        for _ in range(50000):
            value = (value,)
        self.assert_none(value)
        self.assert_none(("strategy", ONE, value))
        self.assert_none(("strategy", ONE, ((value, value),)))
        self.assert_none(("strategy", ONE, ((FIRST, value),)))
        self.assert_none((value, ONE, ()))
        self.assertIs(is_strategy(("strategy", value, ())), True)

    def test_the_meanings_of_programs(self):
        for kind, program in some_programs(17, 400, 10):
            self.assertIs(is_strategy(meaning(kind, program)), True)


class MeaningTest(unittest.TestCase):
    def assert_rows(self, kind, text, rows):
        self.assertEqual(strategy_of(kind, text), ("strategy", kind, rows), text)

    def test_say(self):
        for answer in (0, 1):
            for kind in KINDS:
                program = ("program", len(kind), ("say", answer))
                self.assertEqual(meaning(kind, program), ("strategy", kind, ((FIRST, say(answer, 0)),)))

    def test_stop(self):
        for kind in KINDS:
            self.assertEqual(meaning(kind, ("program", len(kind), ("stop",))), ("strategy", kind, ()))

    def test_ask(self):
        self.assert_rows(ONE, "fun x: o. if x then 0 else 1", NOT_ROWS)
        self.assert_rows(ONE, "fun x: o. if x then stop else 1", NOT_ROWS[:2])
        self.assert_rows(ONE, "fun x: o. if x then stop else stop", NOT_ROWS[:1])
        self.assert_rows(TWO, "fun f: o -> o. f (f 1)", TWICE_ROWS)

    def test_the_argument_that_is_asked(self):
        self.assert_rows((O, ONE, O), "fun x: o. fun f: o -> o. fun y: o. if y then stop else stop",
                         ((FIRST, ask((2,), 0)),))

    def test_the_items_of_arguments(self):
        self.assert_rows((BINARY,), "fun f: o -> o -> o. if f 0 1 then stop else stop", (
            (FIRST, ask((0,), 0)),
            (ASKED + (ask((0, 0), 1),), say(0, 2)),
            (ASKED + (ask((0, 1), 1),), say(1, 2)),
        ))

    def test_asks_of_the_innermost_program_and_of_outer_ones(self):
        inner = ASKED + (ask((0, 0), 1),)
        self.assert_rows(THREE, "fun g: (o -> o) -> o. if g (fun x: o. if x then 0 else 1) then stop else stop", (
            (FIRST, ask((0,), 0)),
            (inner, ask((0, 0, 0), 2)),
            (inner + (ask((0, 0, 0), 2), say(0, 3)), say(1, 2)),
            (inner + (ask((0, 0, 0), 2), say(1, 3)), say(0, 2)),
        ))
        text = "fun g: (o -> o) -> o. fun y: o. if g (fun x: o. if y then 0 else 1) then stop else stop"
        self.assert_rows((TWO, O), text, (
            (FIRST, ask((0,), 0)),
            (inner, ask((1,), 0)),
            (inner + (ask((1,), 0), say(0, 3)), say(1, 2)),
            (inner + (ask((1,), 0), say(1, 3)), say(0, 2)),
        ))

    def test_behind_an_answer_the_same_program_goes_on(self):
        behind = INNER_ASKED + (say(1, 3),)
        self.assert_rows(
            TWO, "fun f: o -> o. if f (if f stop then if f stop then 0 else stop else stop) then stop else 1", (
                (FIRST, ask((0,), 0)),
                (INNER, ask((0,), 0)),
                (behind, ask((0,), 0)),
                (behind + (ask((0,), 0), say(1, 5)), say(0, 2)),
                (ASKED + (say(0, 1),), say(1, 0)),
            ),
        )

    def test_the_order_is_that_of_the_sights(self):
        for kind, program in some_programs(18, 300, 12):
            sights = [sight for sight, _ in meaning(kind, program)[2]]
            self.assertEqual(sights, sorted(set(sights)))

    def test_more_than_ten_steps_are_in_the_order_of_numbers(self):
        text = "f 0"
        for _ in range(7):
            text = f"if f 1 then {text} else stop"
        rows = strategy_of(TWO, f"fun f: o -> o. {text}")[2]
        self.assertEqual([sight for sight, _ in rows], sorted(sight for sight, _ in rows))
        self.assertEqual(len(rows), 1 + 7 * 2 + 3)

    def test_the_same_as_by_the_rule(self):
        for kind, program in some_programs(19, 600, 12):
            strategy = meaning(kind, program)
            self.assertEqual(strategy[:2], ("strategy", kind))
            self.assertEqual(strategy[2], tuple(sorted(rows_by_rule(kind, program).items())))

    def test_sixty_asks_within_one_another(self):
        body = ("say", 1)
        for _ in range(60):
            body = ("ask", 0, 0, (), ("say", 0), body)
        rows = meaning(ONE, ("program", 1, body))[2]
        self.assertEqual(len(rows), 121)
        self.assertEqual(max(len(sight) for sight, _ in rows), 121)


class ProgramOfTest(unittest.TestCase):
    def test_no_rows(self):
        for kind in KINDS:
            self.assertEqual(program_of(("strategy", kind, ())), ("program", len(kind), ("stop",)))

    def test_rows(self):
        self.assertEqual(program_of(("strategy", ONE, NOT_ROWS)), normal(read("fun x: o. if x then 0 else 1")))
        self.assertEqual(program_of(("strategy", TWO, TWICE_ROWS)), normal(read("fun f: o -> o. f (f 1)")))
        self.assertEqual(
            program_of(("strategy", TWO, TWICE_ROWS[:1])), normal(read("fun f: o -> o. if f stop then stop else stop")),
        )

    def test_the_kind_tells_how_many_arguments_there_are(self):
        self.assertEqual(
            program_of(("strategy", (O, (BINARY, O)), ((FIRST, ask((1,), 0)),))),
            ("program", 2, ("ask", 0, 1, (("program", 2, ("stop",)), ("program", 0, ("stop",))), ("stop",), ("stop",))),
        )

    def test_the_program_of_a_meaning_is_the_program(self):
        for kind, program in some_programs(20, 800, 12):
            self.assertEqual(program_of(meaning(kind, program)), program)

    def test_the_meaning_of_the_program_of_a_strategy_is_the_strategy(self):
        chance = random.Random(21)
        for kind, program in some_programs(21, 400, 12):
            strategy = meaning(kind, program)
            if not strategy[2]:
                continue
            # Without one row, and the rows that go on from it, it is a strategy, too.
            left_out = chance.choice(strategy[2])[0]
            rows = tuple(row for row in strategy[2] if row[0][:len(left_out)] != left_out)
            smaller = ("strategy", kind, rows)
            self.assertIs(is_strategy(smaller), True)
            self.assertIs(is_program(kind, program_of(smaller)), True)
            self.assertEqual(meaning(kind, program_of(smaller)), smaller)

    def test_programs_of_many_asks(self):
        body = ("say", 1)
        for level in range(59, -1, -1):
            body = ("ask", level, 0, (("program", 0, body),), ("say", 0), ("say", 1))
        for _ in range(70):
            body = ("ask", 0, 0, (("program", 0, ("ask", 1, 0, (("program", 0, ("stop",)),), ("stop",), ("say", 0))),),
                    ("stop",), body)
        program = ("program", 1, body)
        self.assertEqual(asks(program), 200)
        self.assertEqual(program_of(meaning(TWO, program)), program)


if __name__ == "__main__":
    unittest.main()
