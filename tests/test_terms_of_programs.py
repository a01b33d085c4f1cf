"""[p3]: the term of a program; handed of the interface."""

import random
import unittest

from oracles import BINARY, KINDS, O, ONE, THREE, TWO, plain_by_words, random_program, some_programs
from playsense.checking import kind_of
from playsense.normal import normal
from playsense.programs import asks, handed, is_program, term_of
from playsense.terms import read, write


class TermOfTest(unittest.TestCase):
    def assert_term(self, kind, program, text):
        self.assertEqual(term_of(kind, program), read(text), write(term_of(kind, program)))

    def test_say_and_stop(self):
        self.assert_term(O, ("program", 0, ("say", 0)), "0")
        self.assert_term(O, ("program", 0, ("say", 1)), "1")
        self.assert_term(O, ("program", 0, ("stop",)), "stop")

    def test_funs_with_their_kinds(self):
        self.assert_term(ONE, ("program", 1, ("say", 1)), "fun a0: o. 1")
        self.assert_term(
            (O, ONE, TWO, BINARY), ("program", 4, ("stop",)),
            "fun a0: o. fun b0: o -> o. fun c0: (o -> o) -> o. fun d0: o -> o -> o. stop",
        )

    def test_the_number_of_the_argument_gives_the_letter(self):
        for k, letter in enumerate("abcd"):
            program = ("program", 4, ("ask", 0, k, (), ("say", 0), ("say", 1)))
            self.assert_term(
                (O,) * 4, program,
                f"fun a0: o. fun b0: o. fun c0: o. fun d0: o. if {letter}0 then 1 else 0",
            )

    def test_an_ask_is_a_test_then_one_then_zero(self):
        self.assert_term(
            ONE, ("program", 1, ("ask", 0, 0, (), ("stop",), ("say", 0))), "fun a0: o. if a0 then 0 else stop",
        )

    def test_the_arguments_stand_behind_the_name_in_their_order(self):
        program = ("program", 1, (
            "ask", 0, 0, (("program", 0, ("say", 0)), ("program", 0, ("say", 1))), ("say", 0), ("stop",),
        ))
        self.assert_term((BINARY,), program, "fun a0: o -> o -> o. if a0 0 1 then stop else 0")

    def test_names_are_told_by_the_level_that_is_asked(self):
        innermost = ("program", 2, ("ask", 1, 1, (), ("ask", 0, 1, (), ("say", 1), ("stop",)), ("say", 0)))
        middle = ("program", 2, (
            "ask", 1, 0, (innermost,), ("ask", 0, 0, (), ("say", 1), ("say", 0)), ("say", 1),
        ))
        outermost = ("program", 2, ("ask", 0, 0, (middle,), ("say", 0), ("say", 1)))
        self.assert_term(
            ((BINARY,), O), outermost,
            "fun a0: (o -> o -> o) -> o. fun b0: o. if a0 (fun a1: o. fun b1: o. "
            "if a0 (fun a2: o. fun b2: o. if b1 then 0 else if b2 then stop else 1) then 1 else "
            "if a1 then 0 else 1) then 1 else 0",
        )

    def test_programs_without_arguments_are_levels_too(self):
        program = ("program", 1, ("ask", 0, 0, (
            ("program", 0, ("ask", 1, 0, (("program", 0, ("say", 1)),), ("say", 0), ("say", 1))),
        ), ("say", 0), ("say", 1)))
        self.assert_term(
            TWO, program, "fun a0: o -> o. if a0 (if a0 1 then 1 else 0) then 1 else 0",
        )

    def test_levels_of_more_than_one_digit(self):
        body = ("ask", 0, 0, (), ("say", 0), ("say", 1))
        text = "if a11 then 1 else 0"
        for level in range(10, -1, -1):
            body = ("ask", level, 0, (("program", 1, body),), ("say", 0), ("say", 1))
            text = f"if a0 (fun a{level + 1}: o. {text}) then 1 else 0"
        program = ("program", 1, body)
        self.assertIs(is_program(THREE, program), True)
        self.assert_term(THREE, program, "fun a0: (o -> o) -> o. " + text)

    def test_zero_and_one_are_of_the_same_level(self):
        ask = ("ask", 0, 0, (), ("say", 0), ("ask", 0, 0, (), ("say", 1), ("say", 0)))
        self.assert_term(ONE, ("program", 1, ask), "fun a0: o. if a0 then if a0 then 0 else 1 else 0")

    def test_its_kind_is_the_programs_and_its_normal_form_the_program(self):
        for kind, program in some_programs(3, 600, 12):
            term = term_of(kind, program)
            self.assertEqual(kind_of(term), kind)
            self.assertEqual(normal(term), program)
            self.assertEqual(read(write(term)), term)

    def test_sixty_asks_within_one_another(self):
        body = ("say", 1)
        for _ in range(60):
            body = ("ask", 0, 0, (), ("say", 0), body)
        self.assertEqual(normal(term_of(ONE, ("program", 1, body))), ("program", 1, body))
        body = ("say", 1)
        for level in range(59, -1, -1):
            body = ("ask", level, 0, (("program", 0, body),), ("say", 0), ("say", 1))
        self.assertEqual(normal(term_of(TWO, ("program", 1, body))), ("program", 1, body))


class HandedTest(unittest.TestCase):
    def test_of_answers(self):
        self.assertEqual(handed(O), ("program", 1, ("ask", 0, 0, (), ("say", 0), ("say", 1))))

    def test_of_one_argument(self):
        self.assertEqual(handed(ONE), normal(read("fun f: o -> o. fun x: o. f x")))
        self.assertEqual(handed(ONE), ("program", 2, (
            "ask", 0, 0, (("program", 0, ("ask", 1, 1, (), ("say", 0), ("say", 1))),), ("say", 0), ("say", 1),
        )))

    def test_it_is_the_normal_form_of_what_hands_on(self):
        texts = {
            BINARY: "fun f: o -> o -> o. fun x: o. fun y: o. f x y",
            TWO: "fun f: (o -> o) -> o. fun x: o -> o. f x",
            THREE: "fun f: ((o -> o) -> o) -> o. fun x: (o -> o) -> o. f x",
            (O, ONE, TWO): "fun f: o -> (o -> o) -> ((o -> o) -> o) -> o. "
                           "fun x: o. fun y: o -> o. fun z: (o -> o) -> o. f x y z",
            ((O, ONE), O): "fun f: (o -> (o -> o) -> o) -> o -> o. fun x: o -> (o -> o) -> o. fun y: o. f x y",
        }
        for kind, text in texts.items():
            self.assertEqual(handed(kind), normal(read(text)), text)

    def test_a_name_alone_is_handed_on(self):
        for kind in KINDS + (THREE,):
            self.assertEqual(handed(kind), normal(("fun", "f", kind, ("name", "f"))))

    def test_its_kind(self):
        for kind in KINDS + (THREE, ((BINARY, O), ONE, O, TWO)):
            self.assertIs(is_program((kind,) + kind, handed(kind)), True)

    def test_one_ask_for_each_place(self):
        self.assertEqual(asks(handed(THREE)), 4)
        self.assertEqual(asks(handed((BINARY, (O, ONE)))), 8)

    def test_it_says_what_its_first_argument_says(self):
        chance = random.Random(4)
        for kind in KINDS:
            for _ in range(20):
                first = random_program(chance, kind, 6)
                others = tuple(random_program(chance, inner, 6) for inner in kind)
                self.assertEqual(plain_by_words(handed(kind), (first,) + others), plain_by_words(first, others))


if __name__ == "__main__":
    unittest.main()
