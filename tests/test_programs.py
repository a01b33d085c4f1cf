"""[c4], [c5]: whether a value is a program of a kind; [p1]: the asks of a program."""

import unittest

from oracles import BINARY, KINDS, O, ONE, THREE, TWO, some_programs
from playsense.programs import asks, is_program

SAY = ("say", 1)
STOP = ("stop",)
ZERO = ("program", 0, ("say", 0))
NOT = ("program", 1, ("ask", 0, 0, (), ("say", 1), ("say", 0)))
# fun f: o -> o. f (f 1)
TWICE = ("program", 1, (
    "ask", 0, 0,
    (("program", 0, ("ask", 1, 0, (("program", 0, SAY),), ("say", 0), SAY)),),
    ("say", 0), SAY,
))
# fun g: (o -> o) -> o. fun x: o. g (fun y: o. if y then x else stop)
OUTWARD = ("program", 2, (
    "ask", 0, 0,
    (("program", 1, ("ask", 0, 0, (), STOP, ("ask", 1, 1, (), ("say", 0), SAY))),),
    ("say", 0), SAY,
))
OUTWARD_KIND = (TWO, O)


def whole(body, many=1):
    return ("program", many, body)


def changes(value):
    """All values that have something wrong in one place of a program."""
    if isinstance(value, tuple):
        yield list(value)
        yield value + (("say", 0),)
        yield value[:-1]
        yield (value,)
        for k in range(len(value)):
            for changed in changes(value[k]):
                yield value[:k] + (changed,) + value[k + 1:]
    elif isinstance(value, int):
        yield from (value - 1, value + 1, bool(value), str(value), float(value), (value,), -1 - value, None)
    else:
        yield from ("", "Ask", "asks", value.upper(), value.encode(), None, 0)


class IsProgramTest(unittest.TestCase):
    def assert_program(self, kind, value):
        self.assertIs(is_program(kind, value), True, value)

    def assert_none(self, kind, value):
        self.assertIs(is_program(kind, value), False, value)

    def test_programs_that_say_and_stop(self):
        for kind in KINDS:
            for body in (("say", 0), SAY, STOP):
                self.assert_program(kind, ("program", len(kind), body))

    def test_programs_that_ask(self):
        self.assert_program(ONE, NOT)
        self.assert_program(TWO, TWICE)
        self.assert_program(OUTWARD_KIND, OUTWARD)
        self.assert_program((ONE, O, TWO), ("program", 3, ("ask", 0, 2, (NOT,), STOP, ("ask", 0, 1, (), SAY, STOP))))

    def test_the_many_is_the_number_of_arguments(self):
        for many in range(6):
            for kind in (O, ONE, BINARY, (O, ONE, O), (O,) * 4):
                self.assertIs(is_program(kind, ("program", many, SAY)), many == len(kind))

    def test_programs_of_many_kinds_are_of_these(self):
        for kind, program in some_programs(1, 600, 10):
            self.assert_program(kind, program)

    def test_programs_of_another_kind(self):
        self.assert_none(ONE, TWICE)
        self.assert_none(TWO, NOT)
        self.assert_none((O, ONE), OUTWARD)
        self.assert_none((TWO, ONE), OUTWARD)
        self.assert_none((BINARY,), TWICE)
        self.assert_none((TWO,), TWICE)

    def test_up_counts_levels_out_from_the_innermost_program(self):
        # Three levels: two arguments that are given programs, then three answers, then one.
        kind = (((O, O, O),), (ONE,))
        for up in range(-2, 5):
            for k in range(-2, 5):
                third = whole(("ask", up, k, (), SAY, STOP), 1)
                second = whole(("ask", 1, 1, (third,), SAY, STOP), 3)
                first = whole(("ask", 0, 0, (second,), SAY, STOP), 2)
                fits = (up, k) in ((0, 0), (1, 0), (1, 1), (1, 2))
                self.assertIs(is_program(kind, first), fits, (up, k))

    def test_arguments_stand_one_level_further_in_and_zero_and_one_do_not(self):
        for up in range(3):
            ask = ("ask", up, 0, (), SAY, STOP)
            # Two levels, of the kinds (o -> o) -> o and o: the inner one has no argument to ask.
            argument = whole(("ask", up, 0, (ZERO,), SAY, STOP), 0)
            self.assertIs(is_program(TWO, whole(("ask", 0, 0, (argument,), SAY, STOP))), up == 1)
            # One level, however many asks are around it.
            self.assertIs(is_program(ONE, whole(("ask", 0, 0, (), ask, STOP))), up == 0)
            self.assertIs(is_program(ONE, whole(("ask", 0, 0, (), STOP, ask))), up == 0)
            deeper = ("ask", 0, 0, (), STOP, ("ask", 0, 0, (), ask, STOP))
            self.assertIs(is_program(ONE, whole(deeper)), up == 0)

    def test_up_counts_programs_with_no_arguments_too(self):
        inner = whole(("ask", 2, 0, (ZERO,), SAY, STOP), 0)
        middle = whole(("ask", 1, 0, (inner,), SAY, STOP), 0)
        self.assert_program(TWO, whole(("ask", 0, 0, (middle,), SAY, STOP)))

    def test_k_is_the_number_of_an_argument(self):
        for k in range(-3, 5):
            program = whole(("ask", 0, k, (), SAY, STOP), 2)
            self.assertIs(is_program(BINARY, program), k in (0, 1))

    def test_arguments_are_as_many_and_of_the_kinds_in_their_places(self):
        kind = ((ONE, O),)
        self.assert_program(kind, whole(("ask", 0, 0, (NOT, ZERO), SAY, STOP)))
        for arguments in ((), (NOT,), (ZERO,), (ZERO, NOT), (NOT, NOT), (ZERO, ZERO), (NOT, ZERO, ZERO),
                          [NOT, ZERO], None, (NOT, ("say", 0)), (NOT[2], ZERO), (NOT, None)):
            self.assert_none(kind, whole(("ask", 0, 0, arguments, SAY, STOP)))

    def test_anything_changed_in_one_place(self):
        for kind, program in ((ONE, NOT), (TWO, TWICE), (OUTWARD_KIND, OUTWARD)):
            tried = 0
            for changed in changes(program):
                if changed[:1] != ("program",) or not is_program(kind, changed):
                    tried += 1
                    continue
                # Only an answer may be another one, as far as what is changed goes.
                told = str(changed)
                self.assertIn(told, [str(other) for other in with_other_answers(program)])
            self.assertGreater(tried, 80)

    def test_a_number_one_more_or_less(self):
        self.assert_none(ONE, ("program", 2, NOT[2]))
        self.assert_none(ONE, ("program", 0, NOT[2]))
        for ask in (("ask", 1, 0), ("ask", -1, 0), ("ask", 0, 1), ("ask", 0, -1)):
            self.assert_none(ONE, whole(ask + ((), SAY, STOP)))
        for answer in (-1, 2):
            self.assert_none(ONE, whole(("say", answer)))
            self.assert_none(ONE, whole(("ask", 0, 0, (), ("say", answer), STOP)))
            self.assert_none(ONE, whole(("ask", 0, 0, (), STOP, ("say", answer))))
            self.assert_none(TWO, whole(("ask", 0, 0, (whole(("say", answer), 0),), STOP, SAY)))

    def test_true_and_false_are_no_numbers(self):
        self.assert_none(ONE, ("program", True, SAY))
        self.assert_none(O, ("program", False, SAY))
        self.assert_none(ONE, whole(("say", True)))
        self.assert_none(ONE, whole(("say", False)))
        self.assert_none(ONE, whole(("ask", False, 0, (), SAY, STOP)))
        self.assert_none(ONE, whole(("ask", 0, False, (), SAY, STOP)))
        self.assert_none(BINARY, whole(("ask", 0, True, (), SAY, STOP), 2))

    def test_programs_are_no_bodies_and_bodies_no_programs(self):
        self.assert_none(ONE, whole(NOT))
        self.assert_none(O, whole(ZERO, 0))
        self.assert_none(ONE, NOT[2])
        self.assert_none(O, SAY)
        self.assert_none(O, STOP)
        self.assert_none(TWO, whole(("ask", 0, 0, (SAY,), SAY, STOP)))
        self.assert_none(ONE, whole(("ask", 0, 0, (), ZERO, STOP)))
        self.assert_none(ONE, whole(("ask", 0, 0, (), STOP, ZERO)))

    def test_shapes_of_bodies(self):
        for body in ((), ("stop", 0), ("stop", ()), ("say",), ("say", 0, 1), ("ask",), ("ask", 0, 0, (), SAY),
                     ("ask", 0, 0, (), SAY, STOP, STOP), ("answer", 1), ("program", SAY), ["stop"], ["say", 1],
                     "stop", "say", None, 0, 1, (("say", 1),), ("asks", 0, 0, (), SAY, STOP)):
            self.assert_none(ONE, whole(body))

    def test_values_that_are_no_tuples(self):
        for value in (None, 0, 1, -1, 1.5, True, False, "", "program", b"program", [], {}, set(), object(), len,
                      list(NOT), {"program": 1}, frozenset(), ()):
            for kind in (O, ONE, TWO):
                self.assert_none(kind, value)

    def test_terms_and_kinds_are_no_programs(self):
        self.assert_none(ONE, ("fun", "x", O, ("name", "x")))
        self.assert_none(O, ("answer", 1))
        self.assert_none(ONE, ONE)

    def test_deep_within(self):
        # An odd value behind more asks within one another than calls can be.
        for inmost, fits in ((SAY, True), (("say", 2), False), (None, False), (ZERO, False)):
            body = inmost
            for _ in range(20000):
                body = ("ask", 0, 0, (), STOP, body)
            self.assertIs(is_program(ONE, whole(body)), fits)
        value = ()
        for _ in range(20000):
            value = (value,)
        self.assert_none(ONE, value)
        self.assert_none(ONE, ("program", 1, value))
        self.assert_none(value, whole(("ask", 0, 0, (), SAY, STOP)))


def with_other_answers(program):
    """The program and all that differ from it in one answer."""
    found = [program]
    for k, part in enumerate(program):
        if part in (0, 1) and program[0] == "say" and k == 1:
            found.append(("say", 1 - part))
        if isinstance(part, tuple) and part:
            found.extend(program[:k] + (other,) + program[k + 1:] for other in with_other_answers(part))
    return found


class AsksTest(unittest.TestCase):
    def test_a_program_that_says_has_none(self):
        self.assertEqual(asks(ZERO), 0)
        self.assertEqual(asks(("program", 0, STOP)), 0)
        self.assertEqual(asks(("program", 3, SAY)), 0)

    def test_asks_in_each_place_count(self):
        self.assertEqual(asks(NOT), 1)
        self.assertEqual(asks(TWICE), 2)
        self.assertEqual(asks(OUTWARD), 3)
        again = NOT[2]
        self.assertEqual(asks(whole(("ask", 0, 0, (), again, STOP))), 2)
        self.assertEqual(asks(whole(("ask", 0, 0, (), STOP, again))), 2)
        self.assertEqual(asks(whole(("ask", 0, 0, (NOT,), SAY, STOP))), 2)
        self.assertEqual(asks(whole(("ask", 0, 0, (NOT, NOT, ZERO), again, again))), 5)

    def test_as_many_as_there_are_words(self):
        for kind, program in some_programs(2, 300, 12, KINDS + (THREE,)):
            self.assertEqual(asks(program), str(program).count("'ask'"), program)

    def test_of_large_programs(self):
        body = SAY
        for _ in range(20000):
            body = ("ask", 0, 0, (), STOP, body)
        self.assertEqual(asks(whole(body)), 20000)


if __name__ == "__main__":
    unittest.main()
