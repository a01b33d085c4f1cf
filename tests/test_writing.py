import unittest

from playsense.terms import read, read_kind, write, write_kind

O = ()
ONE = (O,)
ZERO = ("answer", 0)
YES = ("answer", 1)
STOP = ("stop",)
F = ("name", "f")
X = ("name", "x")
FUN = ("fun", "x", O, X)
IF = ("if", X, ZERO, YES)
APPLY = ("apply", F, X)


class WriteKindTest(unittest.TestCase):
    def test_sign_by_sign(self):
        for kind, text in (
            (O, "o"),
            ((O,), "o -> o"),
            ((O, O), "o -> o -> o"),
            ((ONE,), "(o -> o) -> o"),
            ((ONE, O), "(o -> o) -> o -> o"),
            ((O, ONE), "o -> (o -> o) -> o"),
            (((ONE,),), "((o -> o) -> o) -> o"),
            (((ONE, O), (O, O), O), "((o -> o) -> o -> o) -> (o -> o -> o) -> o -> o"),
        ):
            self.assertEqual(write_kind(kind), text)

    def test_read_again(self):
        kinds = [O]
        for _ in range(2):
            kinds = [O] + [(a,) for a in kinds] + [(a, b) for a in kinds for b in kinds]
        for kind in kinds:
            self.assertEqual(read_kind(write_kind(kind)), kind)

    def test_somewhat_beyond_the_bounds(self):
        kind = O
        for _ in range(300):
            kind = (kind,)
        text = write_kind(kind)
        self.assertEqual(text, "(" * 299 + "o -> o" + ") -> o" * 299)
        self.assertEqual(read_kind(text), kind)


class WriteTest(unittest.TestCase):
    def test_small_ones(self):
        self.assertEqual(write(X), "x")
        self.assertEqual(write(("name", "abcd1234")), "abcd1234")
        self.assertEqual(write(ZERO), "0")
        self.assertEqual(write(YES), "1")
        self.assertEqual(write(STOP), "stop")

    def test_fun(self):
        self.assertEqual(write(FUN), "fun x: o. x")
        self.assertEqual(write(("fun", "f", ONE, FUN)), "fun f: o -> o. fun x: o. x")
        self.assertEqual(write(("fun", "g", (ONE, O), APPLY)), "fun g: (o -> o) -> o -> o. f x")
        self.assertEqual(write(("fun", "x", O, IF)), "fun x: o. if x then 0 else 1")

    def test_if(self):
        self.assertEqual(write(IF), "if x then 0 else 1")
        self.assertEqual(write(("if", IF, FUN, APPLY)), "if if x then 0 else 1 then fun x: o. x else f x")
        self.assertEqual(
            write(("if", APPLY, IF, IF)), "if f x then if x then 0 else 1 else if x then 0 else 1"
        )

    def test_the_first_part_of_an_application(self):
        self.assertEqual(write(("apply", F, X)), "f x")
        self.assertEqual(write(("apply", ZERO, X)), "0 x")
        self.assertEqual(write(("apply", STOP, X)), "stop x")
        self.assertEqual(write(("apply", FUN, X)), "(fun x: o. x) x")
        self.assertEqual(write(("apply", IF, X)), "(if x then 0 else 1) x")
        self.assertEqual(write(("apply", APPLY, X)), "f x x")

    def test_the_second_part_of_an_application(self):
        self.assertEqual(write(("apply", F, YES)), "f 1")
        self.assertEqual(write(("apply", F, STOP)), "f stop")
        self.assertEqual(write(("apply", F, FUN)), "f (fun x: o. x)")
        self.assertEqual(write(("apply", F, IF)), "f (if x then 0 else 1)")
        self.assertEqual(write(("apply", F, APPLY)), "f (f x)")

    def test_both_parts(self):
        self.assertEqual(write(("apply", FUN, FUN)), "(fun x: o. x) (fun x: o. x)")
        self.assertEqual(write(("apply", IF, APPLY)), "(if x then 0 else 1) (f x)")
        self.assertEqual(write(("apply", APPLY, APPLY)), "f x (f x)")
        self.assertEqual(write(("apply", ("apply", FUN, X), IF)), "(fun x: o. x) x (if x then 0 else 1)")

    def test_terms_that_have_no_kind_are_written_too(self):
        self.assertEqual(write(("apply", ("answer", 1), ("answer", 0))), "1 0")
        self.assertEqual(write(("name", "nowhere")), "nowhere")

    def test_read_again(self):
        terms = [X, ZERO, STOP]
        for _ in range(2):
            terms = (
                [X, YES, STOP]
                + [("fun", "y", kind, part) for kind in (O, (ONE, O)) for part in terms]
                + [("apply", left, right) for left in terms for right in terms]
                + [("if", part, X, other) for part in terms for other in terms]
                + [("if", YES, part, ZERO) for part in terms]
            )
        for term in terms:
            self.assertEqual(read(write(term)), term)

    def test_written_again_without_needless_signs(self):
        for text, written in (
            ("((f)(x))", "f x"),
            ("f(x)0", "f x 0"),
            ("fun\nx:(o->(o)).(x)", "fun x: o -> o. x"),
            ("( if(x)then 0 else(fun y:o.y) )", "if x then 0 else fun y: o. y"),
        ):
            self.assertEqual(write(read(text)), written)

    def test_four_hundred_parts_and_more(self):
        for many in (200, 2000):
            left = X
            right = X
            for _ in range(many):
                left = ("apply", left, X)
                right = ("apply", X, right)
            self.assertEqual(write(left), "x" + " x" * many)
            self.assertEqual(write(right), "x (" * (many - 1) + "x x" + ")" * (many - 1))
            term = X
            for _ in range(many):
                term = ("fun", "x", O, term)
            self.assertEqual(write(term), "fun x: o. " * many + "x")


if __name__ == "__main__":
    unittest.main()
