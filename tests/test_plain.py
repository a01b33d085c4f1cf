"""[p4]: plain answers, by [c4]."""

import random
import unittest

from oracles import BINARY, KINDS, O, ONE, THREE, TWO, plain_by_words, random_program
from playsense.normal import normal, plain
from playsense.programs import term_of
from playsense.terms import read

STOP = ("program", 0, ("stop",))
ZERO = ("program", 0, ("say", 0))
ANSWER_ONE = ("program", 0, ("say", 1))
ANSWERS = ((STOP, None), (ZERO, 0), (ANSWER_ONE, 1))


def programs(*texts):
    return tuple(normal(read(text)) for text in texts)


class PlainTest(unittest.TestCase):
    def assert_plain(self, answer, text, *arguments):
        program, *others = programs(text, *arguments)
        found = plain(program, tuple(others))
        self.assertEqual(found, answer, (text, arguments))
        self.assertIs(type(found), type(answer))

    def test_without_arguments(self):
        self.assert_plain(0, "0")
        self.assert_plain(1, "1")
        self.assert_plain(None, "stop")

    def test_an_argument_that_is_asked(self):
        self.assert_plain(0, "fun x: o. x", "0")
        self.assert_plain(1, "fun x: o. x", "1")
        self.assert_plain(0, "fun x: o. if x then 0 else 1", "1")
        self.assert_plain(1, "fun x: o. if x then 0 else 1", "0")

    def test_an_argument_that_never_answers_and_is_asked(self):
        self.assert_plain(None, "fun x: o. x", "stop")
        self.assert_plain(None, "fun x: o. if x then 1 else 1", "stop")
        self.assert_plain(None, "fun f: o -> o. f 1", "fun x: o. if x then stop else 1")
        self.assert_plain(None, "fun f: o -> o. if f 1 then 0 else 0", "fun x: o. stop")

    def test_an_argument_that_never_answers_and_is_not_asked(self):
        self.assert_plain(1, "fun x: o. 1", "stop")
        self.assert_plain(0, "fun x: o. fun y: o. if x then y else 0", "0", "stop")
        self.assert_plain(1, "fun f: o -> o. f stop", "fun x: o. 1")
        self.assert_plain(1, "fun f: o -> o. if f 1 then stop else 1", "fun x: o. if x then 0 else stop")

    def test_stops_in_the_zero_and_the_one(self):
        for program, answer in ANSWERS:
            for zero, told_zero in ANSWERS:
                for one, told_one in ANSWERS:
                    asking = ("program", 1, ("ask", 0, 0, (), zero[2], one[2]))
                    expected = {None: None, 0: told_zero, 1: told_one}[answer]
                    self.assertEqual(plain(asking, (program,)), expected)

    def test_the_argument_that_is_asked_is_the_one_of_the_number(self):
        for k in range(4):
            asking = ("program", 4, ("ask", 0, k, (), ("say", 0), ("say", 1)))
            for answers in (("0", "1", "1", "0"), ("1", "0", "0", "1"), ("1", "1", "0", "0")):
                self.assertEqual(plain(asking, programs(*answers)), int(answers[k]))

    def test_arguments_of_arguments_stand_in_their_places(self):
        for first in "01":
            for second in "01":
                text = f"fun f: o -> o -> o. f {first} {second}"
                self.assert_plain(int(first), text, "fun x: o. fun y: o. x")
                self.assert_plain(int(second), text, "fun x: o. fun y: o. y")

    def test_an_argument_that_is_asked_anew_with_other_programs_each_time(self):
        text = "fun f: o -> o. if f 1 then f 0 else if f 0 then 0 else 1"
        self.assert_plain(0, text, "fun x: o. x")
        self.assert_plain(0, text, "fun x: o. if x then 0 else 1")
        self.assert_plain(1, text, "fun x: o. 1")
        self.assert_plain(1, text, "fun x: o. 0")
        self.assert_plain(None, text, "fun x: o. if x then 1 else stop")
        self.assert_plain(1, "fun f: o -> o -> o. if f 0 1 then if f 1 0 then 0 else f 1 1 else stop",
                          "fun x: o. fun y: o. if x then y else 1")

    def test_the_same_argument_asked_within_itself(self):
        self.assert_plain(1, "fun f: o -> o. f (f 1)", "fun x: o. if x then 0 else 1")
        self.assert_plain(0, "fun f: o -> o. f (f (f 1))", "fun x: o. if x then 0 else 1")
        self.assert_plain(1, "fun f: o -> o. f (if f 0 then f 1 else stop)", "fun x: o. if x then x else 1")

    def test_programs_in_arguments_that_ask_outer_levels(self):
        text = "fun g: (o -> o) -> o. fun x: o. g (fun y: o. if y then x else stop)"
        self.assert_plain(0, text, "fun f: o -> o. f 1", "0")
        self.assert_plain(1, text, "fun f: o -> o. f 1", "1")
        self.assert_plain(None, text, "fun f: o -> o. f 0", "1")
        self.assert_plain(None, text, "fun f: o -> o. f 1", "stop")
        self.assert_plain(0, text, "fun f: o -> o. 0", "stop")

    def test_each_call_has_arguments_of_its_own(self):
        # The x of the outer call is asked while the inner call of the same program goes on.
        text = "fun g: (o -> o) -> o. g (fun x: o. g (fun y: o. if y then x else if x then 0 else 1))"
        for argument in ("fun f: o -> o. f (f 0)", "fun f: o -> o. f (f 1)", "fun f: o -> o. if f 1 then f 0 else f 1",
                         "fun f: o -> o. if f 0 then f (f 1) else 1"):
            program, other = programs(text, argument)
            self.assertEqual(plain(program, (other,)), plain_by_words(program, (other,)))
        self.assert_plain(1, text, "fun f: o -> o. if f 1 then f 0 else 1")
        self.assert_plain(0, text, "fun f: o -> o. if f 1 then f 0 else f 1")

    def test_arguments_of_the_third_depth(self):
        text = "fun h: ((o -> o) -> o) -> o. h (fun f: o -> o. f (h (fun k: o -> o. f (k 1))))"
        for argument in ("fun g: (o -> o) -> o. g (fun x: o. x)",
                         "fun g: (o -> o) -> o. g (fun x: o. if x then 0 else 1)", "fun g: (o -> o) -> o. 0",
                         "fun g: (o -> o) -> o. if g (fun x: o. 1) then 0 else stop"):
            program, other = programs(text, argument)
            self.assertEqual(plain(program, (other,)), plain_by_words(program, (other,)))

    def test_the_same_as_by_words(self):
        chance = random.Random(9)
        answers = []
        for number in range(3000):
            kind = KINDS[number % len(KINDS)]
            program = random_program(chance, kind, 10)
            arguments = tuple(random_program(chance, inner, 8) for inner in kind)
            answers.append(plain(program, arguments))
            self.assertEqual(answers[-1], plain_by_words(program, arguments), (program, arguments))
        for answer in (0, 1, None):
            self.assertGreater(answers.count(answer), 200)

    def test_it_is_what_the_normal_form_says(self):
        chance = random.Random(10)
        for number in range(600):
            kind = (TWO, THREE, (ONE, BINARY), (TWO, O, ONE))[number % 4]
            program = random_program(chance, kind, 9)
            arguments = tuple(random_program(chance, inner, 7) for inner in kind)
            term = term_of(kind, program)
            for inner, argument in zip(kind, arguments):
                term = ("apply", term, term_of(inner, argument))
            body = normal(term)[2]
            self.assertEqual(plain(program, arguments), None if body == ("stop",) else body[1])

    def test_calls_deep_within_one_another(self):
        for many in (59, 60, 75, 1000):
            body = ("say", 1)
            for level in range(many - 1, -1, -1):
                body = ("ask", level, 0, (("program", 0, body),), ("say", 0), ("say", 1))
            same, other = programs("fun x: o. x", "fun x: o. if x then 0 else 1")
            self.assertEqual(plain(("program", 1, body), (same,)), 1)
            self.assertEqual(plain(("program", 1, body), (other,)), 1 - many % 2)

    def test_an_answer_that_is_needed_again_and_again(self):
        body = ("say", 1)
        for level in range(59, -1, -1):
            body = ("ask", level, 0, (("program", 0, body),), ("say", 0), ("say", 1))
        again, = programs("fun x: o. if x then if x then x else 0 else x")
        self.assertEqual(plain(("program", 1, body), (again,)), 1)


if __name__ == "__main__":
    unittest.main()
