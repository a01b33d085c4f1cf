"""[p2]: normal forms."""

import random
import unittest

from oracles import KINDS, Names, normal_by_equations, replaced, some_terms, with_new_names
from playsense.checking import kind_of
from playsense.errors import TooMany
from playsense.normal import normal
from playsense.programs import asks, is_program
from playsense.terms import read, write

ZERO = ("say", 0)
ONE = ("say", 1)
STOP = ("stop",)


def ask(k=0, arguments=(), zero=ZERO, one=ONE, up=0):
    return ("ask", up, k, arguments, zero, one)


class EquationsTest(unittest.TestCase):
    def assert_normal(self, text, program):
        self.assertEqual(normal(read(text)), program, text)

    def assert_same(self, *texts):
        first = normal(read(texts[0]))
        for text in texts[1:]:
            self.assertEqual(normal(read(text)), first, text)

    def test_answers_and_stop(self):
        self.assert_normal("0", ("program", 0, ZERO))
        self.assert_normal("1", ("program", 0, ONE))
        self.assert_normal("stop", ("program", 0, STOP))
        self.assert_normal("fun x: o. fun f: o -> o. 0", ("program", 2, ZERO))

    def test_a_fun_that_is_given_an_argument(self):
        self.assert_normal("(fun x: o. x) 1", ("program", 0, ONE))
        self.assert_normal("(fun x: o. x) stop", ("program", 0, STOP))
        self.assert_normal("(fun x: o. fun y: o. x) 0 1", ("program", 0, ZERO))
        self.assert_normal("(fun x: o. fun y: o. y) 0 1", ("program", 0, ONE))
        self.assert_same("(fun f: o -> o. fun y: o. f (f y)) (fun x: o. x)", "fun z: o. z")

    def test_an_argument_that_is_never_used(self):
        self.assert_normal("(fun x: o. 1) stop", ("program", 0, ONE))
        self.assert_normal("fun y: o. (fun x: o. 1) y", ("program", 1, ONE))
        self.assert_normal("(fun f: o -> o. 0) (fun x: o. stop)", ("program", 0, ZERO))
        self.assert_normal("fun f: o -> o. f ((fun x: o. 1) (f stop))",
                           ("program", 1, ask(arguments=(("program", 0, ONE),))))

    def test_an_argument_that_is_used_again_and_again(self):
        once = ask()
        twice = ask(zero=ask(), one=ask(zero=ONE, one=ZERO))
        self.assert_normal("fun y: o. (fun x: o. x) y", ("program", 1, once))
        self.assert_normal("fun y: o. (fun x: o. if x then if x then 0 else 1 else x) y", ("program", 1, twice))

    def test_ifs_of_1_and_0(self):
        self.assert_normal("if 1 then 0 else 1", ("program", 0, ZERO))
        self.assert_normal("if 0 then 0 else 1", ("program", 0, ONE))
        self.assert_normal("if 1 then 1 else stop", ("program", 0, ONE))
        self.assert_normal("if 0 then stop else 0", ("program", 0, ZERO))
        self.assert_normal("fun x: o. if 1 then x else 0", ("program", 1, ask()))
        self.assert_normal("fun x: o. if 0 then x else 0", ("program", 1, ZERO))

    def test_ifs_of_stop(self):
        self.assert_normal("if stop then 0 else 1", ("program", 0, STOP))
        self.assert_normal("if stop then 1 else 1", ("program", 0, STOP))
        self.assert_normal("fun x: o. if stop then x else x", ("program", 1, STOP))
        self.assert_normal("fun x: o. if x then stop else stop", ("program", 1, ask(zero=STOP, one=STOP)))

    def test_ifs_of_ifs(self):
        self.assert_normal("if (if 1 then 0 else 1) then 0 else 1", ("program", 0, ONE))
        self.assert_normal("if (if 0 then stop else 1) then 0 else 1", ("program", 0, ZERO))
        self.assert_same(
            "fun x: o. fun y: o. fun z: o. fun p: o. if (if x then y else z) then p else 0",
            "fun x: o. fun y: o. fun z: o. fun p: o. if x then (if y then p else 0) else (if z then p else 0)",
        )
        self.assert_same(
            "fun x: o. fun y: o. if (if (if x then y else 0) then 0 else y) then stop else x",
            "fun x: o. fun y: o. if x then (if y then (if 0 then stop else x) else (if y then stop else x)) "
            "else (if y then stop else x)",
        )
        self.assert_normal(
            "fun x: o. if (if x then stop else 1) then 0 else 1", ("program", 1, ask(zero=ZERO, one=STOP)),
        )

    def test_a_name_of_kind_answers_alone(self):
        self.assert_normal("fun x: o. x", ("program", 1, ask()))
        self.assert_normal("fun x: o. fun y: o. y", ("program", 2, ask(k=1)))
        self.assert_same("fun x: o. x", "fun x: o. if x then 1 else 0")
        self.assert_same("fun x: o. fun y: o. if x then y else 1",
                         "fun x: o. fun y: o. if x then (if y then 1 else 0) else 1")

    def test_a_name_that_is_given_all_its_arguments(self):
        self.assert_same("fun f: o -> o. f 1", "fun f: o -> o. if f 1 then 1 else 0")
        self.assert_normal(
            "fun f: o -> o -> o. f 0 1",
            ("program", 1, ask(arguments=(("program", 0, ZERO), ("program", 0, ONE)))),
        )

    def test_a_name_without_its_arguments(self):
        self.assert_same("fun f: o -> o. f", "fun f: o -> o. fun x: o. f x")
        self.assert_same("fun f: o -> o -> o. f 1", "fun f: o -> o -> o. fun x: o. f 1 x")
        self.assert_same(
            "fun g: (o -> o) -> o. fun f: o -> o. g f", "fun g: (o -> o) -> o. fun f: o -> o. g (fun x: o. f x)",
            "fun g: (o -> o) -> o. g",
        )
        self.assert_same(
            "fun g: ((o -> o) -> o) -> o. g", "fun g: ((o -> o) -> o) -> o. fun h: (o -> o) -> o. g h",
            "fun g: ((o -> o) -> o) -> o. fun h: (o -> o) -> o. g (fun f: o -> o. h (fun x: o. f x))",
        )

    def test_functions_that_are_given_functions(self):
        self.assert_normal("(fun f: o -> o. f 1) (fun x: o. if x then 0 else 1)", ("program", 0, ZERO))
        self.assert_normal("(fun g: (o -> o) -> o. g (fun x: o. x)) (fun f: o -> o. f (f 1))", ("program", 0, ONE))
        self.assert_same(
            "(fun h: (o -> o) -> o -> o. fun f: o -> o. h (h f)) (fun f: o -> o. fun x: o. f (f x))",
            "fun f: o -> o. fun x: o. f (f (f (f x)))",
        )
        self.assert_same(
            "(fun g: ((o -> o) -> o) -> o. g (fun f: o -> o. f 0)) (fun h: (o -> o) -> o. h (fun x: o. x))", "0",
        )

    def test_names_are_told_apart(self):
        # The y that is given must not become the y of the inner fun.
        self.assert_same("fun y: o. (fun x: o. fun y: o. x) y", "fun y: o. fun z: o. y")
        self.assert_same("fun y: o. (fun x: o. fun y: o. y) y", "fun y: o. fun z: o. z")
        self.assert_same(
            "fun y: o. fun f: o -> o. (fun x: o. f ((fun y: o. if y then x else y) 1)) y",
            "fun y: o. fun f: o -> o. f y",
        )
        self.assert_same(
            "fun x: o. (fun f: o -> o. fun x: o. f x) (fun y: o. x)", "fun x: o. fun z: o. x",
        )
        self.assert_same(
            "fun x: o. fun g: (o -> o) -> o. "
            "(fun a: o -> o. fun x: o. g (fun y: o. a x)) (fun z: o. if z then x else 0)",
            "fun u: o. fun g: (o -> o) -> o. fun v: o. g (fun w: o. if v then u else 0)",
        )

    def test_the_innermost_fun_of_a_name_counts(self):
        self.assert_same("fun x: o. (fun x: o. fun x: o. x) 0 x", "fun x: o. x")
        self.assert_same("fun x: o -> o. (fun x: o. x) (x 1)", "fun f: o -> o. f 1")

    def test_asks_of_outer_programs(self):
        self.assert_normal(
            "fun f: o -> o. fun x: o. f x", ("program", 2, ask(arguments=(("program", 0, ask(k=1, up=1)),))),
        )
        self.assert_normal(
            "fun g: (o -> o) -> o. fun x: o. g (fun y: o. g (fun z: o. if x then y else z))",
            ("program", 2, ask(arguments=(("program", 1, ask(up=1, arguments=(
                ("program", 1, ask(up=2, k=1, zero=ask(), one=ask(up=1))),
            ))),))),
        )

    def test_the_same_argument_at_several_levels(self):
        # What x means is worked out once, but it is told anew at each level.
        self.assert_same(
            "fun f: o -> o. fun z: o. (fun x: o. if x then f x else f (f x)) (f z)",
            "fun f: o -> o. fun z: o. if f z then f (f z) else f (f (f z))",
        )
        self.assert_same(
            "fun f: o -> o. fun z: o. "
            "(fun h: o -> o. if h z then h (h 0) else f (h z)) (fun y: o. f (if y then z else 1))",
            "fun f: o -> o. fun z: o. if f (if z then z else 1) "
            "then f (if f (if 0 then z else 1) then z else 1) else f (f (if z then z else 1))",
        )

    def test_several_equations_together(self):
        self.assert_same(
            "fun f: o -> o. (fun t: o -> o. fun x: o. if t (f x) then t x else stop) (fun y: o. if y then 0 else 1) 1",
            "fun f: o -> o. if f 1 then stop else 0",
        )
        self.assert_same(
            "fun p: o -> o -> o. fun x: o. fun y: o. (fun q: o -> o. if q (p x y) then q 1 else p y y) "
            "(fun z: o. if z then y else x)",
            "fun p: o -> o -> o. fun x: o. fun y: o. if p x y then if y then y else p y y "
            "else if x then y else p y y",
        )

    def test_the_example(self):
        inner = ask(up=1, arguments=(("program", 0, ONE),))
        self.assert_normal("fun f: o -> o. f (f 1)", ("program", 1, ask(arguments=(("program", 0, inner),))))


def contracted(term):
    """All terms to which the first equations lead in one step, wherever they are used."""
    form = term[0]
    if form == "apply" and term[1][0] == "fun":
        _, (_, name, _, body), argument = term
        yield replaced(body, {name: argument})
    if form == "if":
        _, test, yes, no = term
        if test[0] == "answer":
            yield yes if test[1] == 1 else no
        if test[0] == "stop":
            yield test
        if test[0] == "if":
            yield ("if", test[1], ("if", test[2], yes, no), ("if", test[3], yes, no))
    first = 3 if form == "fun" else 1
    for k in range(first, len(term)):
        if isinstance(term[k], tuple):
            for other in contracted(term[k]):
                yield term[:k] + (other,) + term[k + 1:]


def normal_unless_large(term):
    try:
        return normal(term)
    except TooMany:
        return None


class TriedTermsTest(unittest.TestCase):
    def test_the_same_as_by_the_equations(self):
        tried = 0
        for term in some_terms(5, 1500, 40):
            kind = kind_of(term)
            program = normal_unless_large(term)
            if program is not None:
                self.assertEqual(program, normal_by_equations(kind, term), write(term))
                self.assertIs(is_program(kind, program), True, write(term))
                tried += asks(program) > 0
        self.assertGreater(tried, 1000)

    def test_the_same_program_in_whatever_order_one_goes(self):
        chance = random.Random(6)
        steps = 0
        for term in some_terms(7, 300, 25):
            program = normal_unless_large(term)
            names = Names()
            for _ in range(8):
                term = with_new_names(term, names)
                others = list(contracted(term))
                if not others:
                    break
                term = chance.choice(others)
                steps += 1
                self.assertEqual(normal_unless_large(term), program, term)
        self.assertGreater(steps, 500)

    def test_what_it_means_does_not_hang_on_the_names(self):
        for term in some_terms(8, 300, 30, KINDS):
            self.assertEqual(normal_unless_large(with_new_names(term, Names())), normal_unless_large(term))


def doubled(many, inner):
    """A term in which y is asked anew for each of its answers, so many times within itself."""
    return "(fun d: o -> o. " + "d (" * many + inner + ")" * many + ") (fun y: o. if y then y else y)"


def counted(many):
    """The text of a term whose program has just so many asks, not deep within one another."""
    # Each ask of f stands around two halves of the rest.
    def text(rest):
        if rest == 0:
            return "1"
        if rest == 1:
            return "x"
        left = (rest - 1) // 2
        return f"(f {text(left)} {text(rest - 1 - left)})"

    return f"fun f: o -> o -> o. fun x: o. {text(many)}"


class TooManyTest(unittest.TestCase):
    def assert_too_many(self, text):
        with self.assertRaises(TooMany):
            normal(read(text))

    def assert_asks(self, text, many):
        program = normal(read(text))
        self.assertEqual(asks(program), many)
        self.assertIs(is_program(kind_of(read(text)), program), True)

    def test_up_to_a_thousand_asks(self):
        for many in (1, 2, 399, 999, 1000):
            self.assert_asks(counted(many), many)
        for many in (1001, 1002, 1500):
            self.assert_too_many(counted(many))

    def test_some_hundred_asks_of_few_parts(self):
        self.assert_asks("fun x: o. " + doubled(1, "x"), 3)
        self.assert_asks("fun x: o. " + doubled(2, "x"), 15)
        self.assert_asks("fun x: o. " + doubled(3, "x"), 255)

    def test_just_a_thousand_asks_of_few_parts(self):
        # An ask of f adds one to those of its two arguments.
        chain = doubled(2, "x")
        for _ in range(13):
            chain = f"f ({doubled(2, 'x')}) ({chain})"
        self.assert_asks("fun f: o -> o -> o. fun x: o. " + chain, 15 + 13 * 16)
        large = doubled(3, "x")
        text = f"fun f: o -> o -> o. fun x: o. f ({large}) (f ({large}) (f ({large}) (REST)))"
        self.assert_asks(text.replace("REST", "f x (f x (f x (f x (" + chain + "))))"), 999)
        self.assert_asks(text.replace("REST", "f x (f x (f x (f x (f 1 (" + chain + ")))))"), 1000)
        self.assert_too_many(text.replace("REST", "f x (f x (f x (f x (f x (" + chain + ")))))"))

    def test_asks_behind_one_another_and_none_in_arguments(self):
        body = "1"
        for _ in range(9):
            body = f"if x then {body} else {body}"
        self.assert_asks("fun x: o. " + body, 511)
        self.assert_too_many(f"fun x: o. if x then {body} else {body}")

    def test_sixty_within_one_another(self):
        for many in (1, 59, 60):
            self.assert_asks("fun x: o. " + "if x then 0 else " * many + "1", many)
            self.assert_asks("fun x: o. " + "if x then " * many + "1" + " else 0" * many, many)
            self.assert_asks("fun f: o -> o. " + "f (" * many + "1" + ")" * many, many)
        for many in (61, 62, 90):
            self.assert_too_many("fun x: o. " + "if x then 0 else " * many + "1")
            self.assert_too_many("fun x: o. " + "if x then " * many + "1" + " else 0" * many)
            self.assert_too_many("fun f: o -> o. " + "f (" * many + "1" + ")" * many)

    def test_sixty_through_arguments_and_answers(self):
        def mixed(many):
            text = "1"
            for k in range(many):
                text = (f"f ({text})", f"if x then {text} else 0", f"if f 1 then stop else {text}")[k % 3]
            return "fun f: o -> o. fun x: o. " + text

        normal(read(mixed(60)))
        self.assert_too_many(mixed(61))

    def test_few_parts_and_many_thousands_of_asks(self):
        for many in (4, 5, 20, 100):
            self.assert_too_many("fun x: o. " + doubled(many, "x"))
            self.assert_too_many("fun f: o -> o. f (" + doubled(many, "f 1") + ")")
        wide = "(fun d: o -> o. " + "d (" * 12 + "x" + ")" * 12 + ") (fun y: o. f y y)"
        self.assert_too_many("fun f: o -> o -> o. fun x: o. " + wide)

    def test_numbers_of_calls_that_are_raised(self):
        two = "(fun g: o -> o. fun y: o. g (g y))"
        higher = "(fun h: (o -> o) -> o -> o. fun g: o -> o. h (h g))"
        self.assert_asks(f"fun f: o -> o. {higher} {two} f 1", 4)
        self.assert_asks(f"fun f: o -> o. {higher} ({higher} {two}) f 1", 16)
        self.assert_too_many(f"fun f: o -> o. {higher} ({higher} ({higher} {two})) f 1")

    def test_what_is_not_needed_does_not_count(self):
        large = doubled(30, "x")
        self.assert_asks(f"fun x: o. (fun y: o. 1) ({large})", 0)
        self.assert_asks(f"fun x: o. if 1 then x else {large}", 1)
        self.assert_asks(f"fun x: o. if x then stop else if stop then {large} else 0", 1)

    def test_answers_that_are_used_again_and_again_are_worked_out_once(self):
        self.assert_asks(doubled(150, "1"), 0)
        self.assertEqual(normal(read(doubled(150, "0"))), ("program", 0, ("say", 0)))
        tower = "(fun d: (o -> o) -> o -> o. " + "d (" * 60 + "fun x: o. x" + ")" * 60 + ")"
        again = "(fun h: o -> o. fun x: o. if h x then h x else h x)"
        self.assertEqual(normal(read(f"{tower} {again} 1")), ("program", 0, ("say", 1)))

    def test_calls_deep_within_one_another(self):
        for many, answer in ((149, 0), (150, 1), (151, 0)):
            chain = "(fun x: o. if x then 0 else 1) (" * many + "1" + ")" * many
            self.assertEqual(normal(read(chain)), ("program", 0, ("say", answer)))

    def test_it_is_raised_each_time(self):
        for _ in range(3):
            self.assert_too_many("fun x: o. " + doubled(5, "x"))
            self.assert_asks("fun x: o. " + doubled(3, "x"), 255)


if __name__ == "__main__":
    unittest.main()
