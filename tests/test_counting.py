"""[b1] with [p1]: how many programs of a kind have just so many asks, and which."""

import itertools
import math
import unittest

from oracles import BINARY, KINDS, O, ONE, THREE, TWO
from playsense.counting import count, listed
from playsense.errors import SenseFault, TooMany
from playsense.programs import asks, is_program

SAY_0 = ("say", 0)
SAY_1 = ("say", 1)
STOP = ("stop",)
LARGE_KINDS = ((O, O, O, O), (ONE, ONE, ONE, ONE), ((O, O, O, O), (O, O, O), O), ((BINARY, ONE, ONE), ONE),
               (((O, O, O, O), (O, O, O, O)),), ((ONE, ONE, ONE, ONE),), (TWO, TWO, TWO, TWO))


def parts_by_words(many, places):
    """All ways to part so many asks among places."""
    if places == 0:
        return [()] if many == 0 else []
    return [(few,) + rest for few in range(many + 1) for rest in parts_by_words(many - few, places - 1)]


def bodies_by_words(levels, many):
    """All bodies with so many asks within programs of the kinds in levels, the innermost last."""
    if many == 0:
        return [SAY_0, SAY_1, STOP]
    found = []
    for up in range(len(levels)):
        kind = levels[len(levels) - 1 - up]
        for k in range(len(kind)):
            for parts in parts_by_words(many - 1, len(kind[k]) + 2):
                arguments = [
                    [("program", len(inner), body) for body in bodies_by_words(levels + (inner,), few)]
                    for inner, few in zip(kind[k], parts)
                ]
                ends = [bodies_by_words(levels, few) for few in parts[-2:]]
                for chosen in itertools.product(*arguments, *ends):
                    found.append(("ask", up, k, chosen[:-2], *chosen[-2:]))
    return found


def count_by_words(levels, many, known):
    """How many bodies there are within programs of the kinds in levels."""
    if many == 0:
        return 3
    key = (levels, many)
    if key not in known:
        total = 0
        for kind in levels:
            for asked in kind:
                for parts in parts_by_words(many - 1, len(asked) + 2):
                    within = [levels + (inner,) for inner in asked] + [levels, levels]
                    total += math.prod(count_by_words(inner, few, known) for inner, few in zip(within, parts))
        known[key] = total
    return known[key]


class CountTest(unittest.TestCase):
    def test_no_asks(self):
        for kind in KINDS + LARGE_KINDS:
            self.assertEqual(count(kind, 0), 3)

    def test_a_kind_without_arguments(self):
        self.assertEqual([count(O, many) for many in range(9)], [3, 0, 0, 0, 0, 0, 0, 0, 0])

    def test_one_ask(self):
        # zero and one are each one of three, and so is each item of the arguments.
        self.assertEqual(count(ONE, 1), 9)
        self.assertEqual(count(BINARY, 1), 18)
        self.assertEqual(count(TWO, 1), 27)
        self.assertEqual(count((BINARY,), 1), 81)
        self.assertEqual(count((ONE, O), 1), 27 + 9)
        self.assertEqual(count((BINARY, ONE, O), 1), 81 + 27 + 9)
        self.assertEqual(count(THREE, 1), 27)

    def test_two_asks(self):
        self.assertEqual(count(ONE, 2), 2 * 3 * 9)
        self.assertEqual(count(TWO, 2), 27 * 27)
        # The item of the argument has an argument of its own to ask.
        self.assertEqual(count(THREE, 2), 2 * 9 * 27 + 9 * (27 + 9))

    def test_kinds_of_answers_alone(self):
        # As many as there are trees of two branches, the ends and the asks told apart.
        for n in range(5):
            for many in range(9):
                catalan = math.comb(2 * many, many) // (many + 1)
                self.assertEqual(count((O,) * n, many), catalan * n ** many * 3 ** (many + 1))

    def test_eight_asks(self):
        self.assertEqual(count(ONE, 8), 1430 * 3 ** 9)
        self.assertEqual(count(THREE, 8), count_by_words((THREE,), 8, {}))

    def test_programs_further_out_can_be_asked(self):
        levels = {}
        self.assertEqual(count(((TWO,),), 5), count_by_words((((TWO,),),), 5, levels))
        self.assertEqual(count((THREE, ONE), 5), count_by_words(((THREE, ONE),), 5, levels))

    def test_the_order_of_the_arguments_makes_no_difference(self):
        for kind in (THREE, ONE, BINARY), (TWO, O), ((ONE, O), TWO, O):
            for many in range(5):
                self.assertEqual(len({count(order, many) for order in itertools.permutations(kind)}), 1)

    def test_by_the_words(self):
        for kind in KINDS:
            known = {}
            for many in range(5):
                self.assertEqual(count(kind, many), count_by_words((kind,), many, known))

    def test_large_kinds(self):
        for kind in LARGE_KINDS:
            known = {}
            for many in range(4):
                self.assertEqual(count(kind, many), count_by_words((kind,), many, known))
            self.assertGreater(count(kind, 8), 10 ** 10)


class ListedTest(unittest.TestCase):
    def test_no_asks(self):
        for kind in KINDS + LARGE_KINDS:
            programs = tuple(("program", len(kind), body) for body in (SAY_0, SAY_1, STOP))
            self.assertEqual(listed(kind, 0), programs)

    def test_one_ask(self):
        bodies = (SAY_0, SAY_1, STOP)
        self.assertEqual(listed(ONE, 1), tuple(
            ("program", 1, ("ask", 0, 0, (), zero, one)) for zero in bodies for one in bodies
        ))
        self.assertEqual(listed((O, ONE), 1), tuple(
            ("program", 2, ("ask", 0, 0, (), zero, one)) for zero in bodies for one in bodies
        ) + tuple(
            ("program", 2, ("ask", 0, 1, (("program", 0, item),), zero, one))
            for item in bodies for zero in bodies for one in bodies
        ))

    def test_asks_are_ahead_of_what_is_said_and_this_ahead_of_stops(self):
        programs = listed(ONE, 2)
        self.assertEqual(programs[0], ("program", 1, ("ask", 0, 0, (), ("ask", 0, 0, (), SAY_0, SAY_0), SAY_0)))
        self.assertEqual(programs[26], ("program", 1, ("ask", 0, 0, (), ("ask", 0, 0, (), STOP, STOP), STOP)))
        self.assertEqual(programs[27], ("program", 1, ("ask", 0, 0, (), SAY_0, ("ask", 0, 0, (), SAY_0, SAY_0))))
        self.assertEqual(programs[-1], ("program", 1, ("ask", 0, 0, (), STOP, ("ask", 0, 0, (), STOP, STOP))))

    def test_inner_arguments_are_ahead_of_outer_ones(self):
        programs = listed(THREE, 2)
        inner = [program[2][3][0][2] for program in programs]
        self.assertEqual(inner[0], ("ask", 0, 0, (), SAY_0, SAY_0))
        self.assertEqual([body[:3] for body in inner if body[0] == "ask"], [("ask", 0, 0)] * 81 + [("ask", 1, 0)] * 243)

    def test_a_kind_without_arguments(self):
        for many in range(1, 9):
            self.assertEqual(listed(O, many), ())
        self.assertEqual(listed(O, 1000), ())

    def test_as_many_as_count_tells_and_rising(self):
        several = 0
        for kind in KINDS + LARGE_KINDS:
            for many in range(9):
                if count(kind, many) > 2000:
                    break
                programs = listed(kind, many)
                self.assertIsInstance(programs, tuple)
                self.assertEqual(len(programs), count(kind, many))
                self.assertEqual(list(programs), sorted(set(programs)))
                for program in programs:
                    self.assertIs(is_program(kind, program), True)
                    self.assertEqual(asks(program), many)
                several += len(programs) > 100
        self.assertGreater(several, 8)

    def test_by_the_words(self):
        for kind, most in ((O, 3), (ONE, 3), (BINARY, 2), (TWO, 2), (THREE, 2), ((O, O, O), 2), ((BINARY,), 1),
                           ((O, ONE), 2), ((TWO,), 2)):
            for many in range(most + 1):
                if count(kind, many) <= 2000:
                    expected = sorted(("program", len(kind), body) for body in bodies_by_words((kind,), many))
                    self.assertEqual(listed(kind, many), tuple(expected))

    def test_too_many(self):
        for kind in KINDS + LARGE_KINDS:
            for many in range(9):
                if count(kind, many) > 2000:
                    with self.assertRaises(TooMany):
                        listed(kind, many)
        with self.assertRaises(SenseFault) as caught:
            listed(ONE, 4)
        self.assertIs(type(caught.exception), TooMany)
        with self.assertRaises(TooMany):
            listed(ONE, 1000)

    def test_just_few_enough(self):
        # Of all kinds within the bounds, none comes closer to 2,000 from either side.
        kind = (O, O, ((O, O, O),))
        self.assertEqual(count(kind, 2), 1998)
        programs = listed(kind, 2)
        self.assertEqual(len(programs), 1998)
        self.assertEqual(list(programs), sorted(set(programs)))
        more = (O, O, ((O, O, O, O),))
        self.assertEqual(count(more, 2), 2079)
        with self.assertRaises(TooMany):
            listed(more, 2)


if __name__ == "__main__":
    unittest.main()
