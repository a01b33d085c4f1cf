import unittest

from playsense.errors import TextFault
from playsense.terms import read, read_kind

O = ()
ONE = (O,)
ZERO = ("answer", 0)
YES = ("answer", 1)
STOP = ("stop",)


def name(letters):
    return ("name", letters)


def apply(function, *arguments):
    for argument in arguments:
        function = ("apply", function, argument)
    return function


class ReadingCase(unittest.TestCase):
    def assert_fault(self, reader, text, at, reason):
        with self.assertRaises(TextFault) as caught:
            reader(text)
        self.assertEqual((caught.exception.at, caught.exception.reason), (at, reason), text)
        self.assertIs(type(caught.exception), TextFault)


class ReadTest(unittest.TestCase):
    def test_items(self):
        self.assertEqual(read("x"), name("x"))
        self.assertEqual(read("0"), ZERO)
        self.assertEqual(read("1"), YES)
        self.assertEqual(read("stop"), STOP)
        self.assertEqual(read("(x)"), name("x"))

    def test_names(self):
        for letters in ("a", "z", "abcdefgh", "a1", "a0123456", "z9", "x2345678", "a1b2c3d4"):
            self.assertEqual(read(letters), name(letters))

    def test_names_that_begin_like_a_word(self):
        texts = "iffy o1 oo on funny fun1 if0 thenx else1 stops stop1 elseelse"
        for letters in texts.split():
            self.assertEqual(read(letters), name(letters))
        self.assertEqual(read("fun o1: o. o1"), ("fun", "o1", O, name("o1")))

    def test_fun(self):
        self.assertEqual(read("fun x: o. x"), ("fun", "x", O, name("x")))
        self.assertEqual(read("fun x: o -> o. x"), ("fun", "x", ONE, name("x")))
        self.assertEqual(
            read("fun f: o -> o. fun x: o. f x"),
            ("fun", "f", ONE, ("fun", "x", O, apply(name("f"), name("x")))),
        )

    def test_the_body_of_a_fun_goes_on_as_far_as_it_can(self):
        self.assertEqual(read("fun x: o. f x 1"), ("fun", "x", O, apply(name("f"), name("x"), YES)))
        self.assertEqual(read("(fun x: o. f) x"), apply(("fun", "x", O, name("f")), name("x")))
        self.assertEqual(
            read("fun x: o. if x then 0 else x x"),
            ("fun", "x", O, ("if", name("x"), ZERO, apply(name("x"), name("x")))),
        )

    def test_if(self):
        self.assertEqual(read("if x then y else z"), ("if", name("x"), name("y"), name("z")))
        self.assertEqual(
            read("if f 0 then g 1 else h stop"),
            ("if", apply(name("f"), ZERO), apply(name("g"), YES), apply(name("h"), STOP)),
        )
        self.assertEqual(
            read("if if a then b else c then if d then e else f else if g then h else i"),
            (
                "if",
                ("if", name("a"), name("b"), name("c")),
                ("if", name("d"), name("e"), name("f")),
                ("if", name("g"), name("h"), name("i")),
            ),
        )
        self.assertEqual(
            read("if fun x: o. x then fun y: o. y else fun z: o. z"),
            ("if", ("fun", "x", O, name("x")), ("fun", "y", O, name("y")), ("fun", "z", O, name("z"))),
        )

    def test_several_items_are_applied_from_the_left(self):
        self.assertEqual(read("f a b"), ("apply", ("apply", name("f"), name("a")), name("b")))
        self.assertEqual(read("f 0 1 stop x"), apply(name("f"), ZERO, YES, STOP, name("x")))
        self.assertEqual(read("f (a b) c"), apply(name("f"), apply(name("a"), name("b")), name("c")))
        self.assertEqual(read("f (fun x: o. x)"), apply(name("f"), ("fun", "x", O, name("x"))))
        self.assertEqual(read("f (if x then 0 else 1) y"), apply(name("f"), ("if", name("x"), ZERO, YES), name("y")))

    def test_needless_parentheses(self):
        self.assertEqual(read("(((x)))"), name("x"))
        self.assertEqual(read("((f) (a)) (b)"), read("f a b"))
        self.assertEqual(read("(fun x: ((o)). (x))"), read("fun x: o. x"))
        self.assertEqual(read("(if (x) then (0) else (1))"), read("if x then 0 else 1"))
        self.assertEqual(read("fun x: (o) -> (o -> o). x"), ("fun", "x", (O, O), name("x")))

    def test_forty_parentheses_and_more(self):
        self.assertEqual(read("(" * 40 + "x" + ")" * 40), name("x"))
        self.assertEqual(read("(" * 900 + "x" + ")" * 900), name("x"))
        kind = O
        for _ in range(40):
            kind = (kind,)
        self.assertEqual(read_kind("(" * 40 + "o" + " -> o)" * 40), kind)
        self.assertEqual(read("fun f: " + "(" * 40 + "o" + ")" * 40 + ". f"), ("fun", "f", O, name("f")))

    def test_a_hundred_behind_one_another(self):
        term = read("fun x: o. " * 100 + "x")
        for _ in range(100):
            form, letters, kind, term = term
            self.assertEqual((form, letters, kind), ("fun", "x", O))
        self.assertEqual(term, name("x"))
        term = read("if 0 then 1 else " * 100 + "x")
        for _ in range(100):
            self.assertEqual(term[:3], ("if", ZERO, YES))
            term = term[3]
        self.assertEqual(term, name("x"))
        term = read("if " * 100 + "x" + " then 0 else 1" * 100)
        for _ in range(100):
            self.assertEqual((term[0],) + term[2:], ("if", ZERO, YES))
            term = term[1]
        self.assertEqual(term, name("x"))
        self.assertEqual(read_kind("o -> " * 100 + "o"), (O,) * 100)

    def test_a_long_application(self):
        term = read("x " * 1000)
        for _ in range(999):
            self.assertEqual((term[0], term[2]), ("apply", name("x")))
            term = term[1]
        self.assertEqual(term, name("x"))

    def test_the_example(self):
        self.assertEqual(
            read("fun f: o -> o. f (f 1)"),
            ("fun", "f", (O,), ("apply", name("f"), ("apply", name("f"), YES))),
        )


class ReadKindTest(unittest.TestCase):
    def test_kinds(self):
        self.assertEqual(read_kind("o"), O)
        self.assertEqual(read_kind("o -> o"), (O,))
        self.assertEqual(read_kind("o -> o -> o"), (O, O))
        self.assertEqual(read_kind("(o -> o) -> o"), ((O,),))
        self.assertEqual(read_kind("o -> (o -> o) -> o"), (O, (O,)))

    def test_arguments_with_arguments_with_arguments(self):
        self.assertEqual(read_kind("((o -> o) -> o) -> o"), (((O,),),))
        self.assertEqual(
            read_kind("((o -> o) -> o -> o) -> (o -> o -> o) -> o"),
            (((O,), O), (O, O)),
        )

    def test_needless_parentheses(self):
        self.assertEqual(read_kind("((o))"), O)
        self.assertEqual(read_kind("(o) -> (o)"), (O,))
        self.assertEqual(read_kind("o -> (o -> o)"), (O, O))
        self.assertEqual(read_kind("(o -> (o -> (o)))"), (O, O))


class TokensTest(ReadingCase):
    def test_spaces_and_newlines_part_tokens(self):
        self.assertEqual(read("f a"), apply(name("f"), name("a")))
        self.assertEqual(read("f\na"), apply(name("f"), name("a")))
        self.assertEqual(read("  f \n\n  a\n"), apply(name("f"), name("a")))
        self.assertEqual(read("fa"), name("fa"))
        self.assertEqual(read("\n fun\nx\n:\no\n->\no\n.\nx \n"), ("fun", "x", ONE, name("x")))

    def test_none_where_none_is_needed(self):
        self.assertEqual(read("fun x:o->o.x"), ("fun", "x", ONE, name("x")))
        self.assertEqual(read("f(x)(y)0"), apply(name("f"), name("x"), name("y"), ZERO))
        self.assertEqual(read("if(x)then(y)else(z)"), ("if", name("x"), name("y"), name("z")))
        self.assertEqual(read_kind("(o->o)->o"), (ONE,))

    def test_digits_are_tokens_each_by_itself(self):
        self.assertEqual(read("01"), apply(ZERO, YES))
        self.assertEqual(read("110"), apply(YES, YES, ZERO))
        self.assertEqual(read("0x1"), apply(ZERO, name("x1")))
        self.assertEqual(read("1stop"), apply(YES, STOP))
        self.assertEqual(read("if 1then 0else 0"), ("if", YES, ZERO, ZERO))
        self.assertEqual(read("f 0000000000"), apply(name("f"), *[ZERO] * 10))

    def test_too_long(self):
        self.assert_fault(read, "abcdefghi", 0, "too long")
        self.assert_fault(read, "a12345678", 0, "too long")
        self.assert_fault(read, "  \n abcdefghijklmnop x", 4, "too long")
        self.assert_fault(read, "fun abcdefghi: o. 0", 4, "too long")
        self.assert_fault(read, "stopstops", 0, "too long")
        self.assert_fault(read, "x 0abcdefghi", 3, "too long")
        self.assert_fault(read_kind, "o -> ooooooooo", 5, "too long")

    def test_unknown_sign(self):
        for sign in "23456789AZ_,;<>=+*/-!?'\"[]{}\t\r\v\f\\#@~`^&|$\x00":
            self.assert_fault(read, sign, 0, "unknown sign")
            self.assert_fault(read, "f x " + sign, 4, "unknown sign")
            self.assert_fault(read_kind, "o -> o " + sign, 7, "unknown sign")
        for sign in "\u00e9\u00df\u03b1\u0660\u00b2\u00a0\u2028\u2192\uff41\U0001d41a":
            self.assert_fault(read, sign, 0, "unknown sign")
            self.assert_fault(read, "x" + sign, 1, "unknown sign")

    def test_a_name_ends_where_an_unknown_sign_stands(self):
        self.assert_fault(read, "abcDef", 3, "unknown sign")
        self.assert_fault(read, "ab_c", 2, "unknown sign")
        self.assert_fault(read, "abcdefgh_", 8, "unknown sign")

    def test_half_an_arrow(self):
        self.assert_fault(read_kind, "o - > o", 2, "unknown sign")
        self.assert_fault(read_kind, "o -", 2, "unknown sign")
        self.assert_fault(read_kind, "o --> o", 2, "unknown sign")
        self.assert_fault(read_kind, "o > o", 2, "unknown sign")
        self.assert_fault(read_kind, "o ->> o", 4, "unknown sign")
        self.assert_fault(read_kind, "o -\n> o", 2, "unknown sign")

    def test_the_first_fault_from_left_to_right(self):
        self.assert_fault(read, "abcdefghi $", 0, "too long")
        self.assert_fault(read, "$ abcdefghi", 0, "unknown sign")
        self.assert_fault(read, "x ? !", 2, "unknown sign")
        self.assert_fault(read, "abcdefghi$", 0, "too long")
        self.assert_fault(read, "x abcdefghi jklmnopqr", 2, "too long")

    def test_ahead_of_every_fault_of_the_grammar(self):
        self.assert_fault(read, ") ) then $", 9, "unknown sign")
        self.assert_fault(read, "fun fun abcdefghi", 8, "too long")
        self.assert_fault(read, "if x then -", 10, "unknown sign")
        self.assert_fault(read_kind, "x x 2", 4, "unknown sign")
        self.assert_fault(read_kind, "o o o ->abcdefghi", 8, "too long")
        self.assert_fault(read, "   $", 3, "unknown sign")


class GrammarFaultsTest(ReadingCase):
    def test_unexpected_word(self):
        for text, at in (
            (")", 0),
            ("()", 1),
            ("o", 0),
            ("x o", 2),
            ("x -> y", 2),
            ("then", 0),
            ("else", 0),
            ("0 then", 2),
            (": x", 0),
            ("x . y", 2),
            ("f fun x: o. x", 2),
            ("f if x then y else z", 2),
            ("fun x o. x", 6),
            ("fun x: x. x", 7),
            ("fun x: . x", 7),
            ("fun x: o x", 9),
            ("fun x: o -> . x", 12),
            ("fun x: (o. x", 9),
            ("fun x: o). x", 8),
            ("fun x: o. )", 10),
            ("fun x: o. o", 10),
            ("fun x: o -> o -> stop. x", 17),
            ("if then", 3),
            ("if x else y", 5),
            ("if x then else", 10),
            ("if x then y then", 12),
            ("if x then y else else", 17),
            ("if (x then y else z)", 6),
            ("(if x then y) else z", 12),
            ("(x then", 3),
        ):
            self.assert_fault(read, text, at, "unexpected word")

    def test_a_word_in_the_place_of_a_name(self):
        for word in ("fun", "if", "then", "else", "stop", "o", "0", "1", "(", ".", ":", "->"):
            self.assert_fault(read, "fun " + word + ": o. 0", 4, "unexpected word")

    def test_tokens_left_over(self):
        self.assert_fault(read, "x)", 1, "unexpected word")
        self.assert_fault(read, "(x) )", 4, "unexpected word")
        self.assert_fault(read, "fun x: o. x : o", 12, "unexpected word")
        self.assert_fault(read, "if x then y else z else w", 19, "unexpected word")
        self.assert_fault(read_kind, "o o", 2, "unexpected word")
        self.assert_fault(read_kind, "o -> o) -> o", 6, "unexpected word")
        self.assert_fault(read_kind, "(o)(o)", 3, "unexpected word")

    def test_unexpected_word_in_a_kind(self):
        for word in ("x", "fun", "if", "then", "else", "stop", "0", "1", ":", ".", ")", "->"):
            self.assert_fault(read_kind, word, 0, "unexpected word")
            self.assert_fault(read_kind, "o -> " + word, 5, "unexpected word")
            self.assert_fault(read_kind, "(" + word, 1, "unexpected word")
        self.assert_fault(read_kind, "(o o)", 3, "unexpected word")
        self.assert_fault(read_kind, "o (o)", 2, "unexpected word")

    def test_unexpected_end(self):
        for text in (
            "",
            " ",
            " \n  ",
            "(",
            "(x",
            "f (x ",
            "fun",
            "fun x",
            "fun x:",
            "fun x: o",
            "fun x: o ->",
            "fun x: (o",
            "fun x: o.",
            "fun x: o. (x",
            "if",
            "if x",
            "if x then",
            "if x then y",
            "if x then y else  \n",
            "(((x))",
        ):
            self.assert_fault(read, text, len(text), "unexpected end")

    def test_unexpected_end_of_a_kind(self):
        for text in ("", "\n", "(", "(o", "o ->", "o -> (o", "(o -> o  ", "((o) ->\n"):
            self.assert_fault(read_kind, text, len(text), "unexpected end")


# The grammar as the document writes it, and all ways to go on with a text at once:
# each is the tuple of what must still follow. It is slow, and shares nothing with the reader.
GRAMMAR = {
    "kind": (("part",), ("part", "->", "kind")),
    "part": (("o",), ("(", "kind", ")")),
    "term": (
        ("fun", "NAME", ":", "kind", ".", "term"),
        ("if", "term", "then", "term", "else", "term"),
        ("items",),
    ),
    "items": (("item",), ("item", "items")),
    "item": (("NAME",), ("0",), ("1",), ("stop",), ("(", "term", ")")),
}
TOKENS = ("NAME", "fun", "if", "then", "else", "stop", "o", "0", "1", ":", ".", "(", ")", "->")


def opened(ways):
    """All ways in which the next thing is a token, or nothing."""
    pending = list(ways)
    found = set()
    while pending:
        way = pending.pop()
        if way and way[0] in GRAMMAR:
            pending.extend([start + way[1:] for start in GRAMMAR[way[0]]])
        else:
            found.add(way)
    return found


def passed(ways, token):
    return opened({way[1:] for way in ways if way and way[0] == token})


class EachShortTextTest(ReadingCase):
    def check(self, reader, tokens, ways, longest):
        text = " ".join(tokens).replace("NAME", "x")
        if () in ways:
            reader(text)
        else:
            self.assert_fault(reader, text, len(text), "unexpected end")
        if len(tokens) < longest:
            for token in TOKENS:
                self.check_next(reader, tokens, ways, token, longest)

    def check_next(self, reader, tokens, ways, token, longest):
        left = passed(ways, token)
        if left:
            self.check(reader, tokens + (token,), left, longest)
        else:
            text = " ".join(tokens + (token,)).replace("NAME", "x")
            at = len(text) - len(token.replace("NAME", "x"))
            self.assert_fault(reader, text, at, "unexpected word")
            self.assert_fault(reader, text + " x ) o", at, "unexpected word")

    def test_terms(self):
        self.check(read, (), opened({("term",)}), 5)

    def test_kinds(self):
        self.check(read_kind, (), opened({("kind",)}), 7)


if __name__ == "__main__":
    unittest.main()
