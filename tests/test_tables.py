"""[f1] to [f4]: inputs, tables of programs, and which tables are those of programs."""

import itertools
import random
import unittest

from oracles import plain_by_words, some_programs
from playsense.normal import normal
from playsense.programs import asks, is_program
from playsense.tables import decide, inputs_of, table_of
from playsense.terms import read

N = None
ITEMS = (None, 0, 1)
SAY_0 = ("say", 0)
SAY_1 = ("say", 1)
STOP = ("stop",)
# The table that answers 1 as soon as one of two items is 1, and 0 if both are 0: it is stuck.
PARALLEL_OR = (N, N, 1, N, 0, 1, 1, 1, 1)


def all_inputs(n):
    return tuple(itertools.product(ITEMS, repeat=n))


def ask(k, zero, one):
    return ("ask", 0, k, (), zero, one)


def program(n, body):
    return ("program", n, body)


def table_by_words(n, tried):
    found = []
    for inputs in all_inputs(n):
        arguments = tuple(("program", 0, STOP if item is None else ("say", item)) for item in inputs)
        found.append(plain_by_words(tried, arguments))
    return tuple(found)


def table_with(n, told):
    """The table that tells what a function of inputs does."""
    return tuple(told(inputs) for inputs in all_inputs(n))


def tells_more(inputs, others):
    return inputs != others and all(b is None or a == b for a, b in zip(inputs, others))


def decide_by_words(n, table):
    told = dict(zip(all_inputs(n), table))
    for inputs in all_inputs(n):
        for others in all_inputs(n):
            if told[inputs] is not None and tells_more(others, inputs) and told[others] != told[inputs]:
                return ("falls", inputs, others)
    stuck = []
    body = body_by_words(told, n, (None,) * n, stuck)
    return ("stuck", stuck[0]) if stuck else ("program", ("program", n, body))


def body_by_words(told, n, inputs, stuck):
    if told[inputs] is not None:
        return ("say", told[inputs])
    more = [others for others in told if tells_more(others, inputs) and told[others] is not None]
    if not more:
        return STOP
    musts = [k for k in range(n) if inputs[k] is None and None not in [others[k] for others in more]]
    if not musts:
        stuck.append(inputs)
        return STOP
    k = musts[0]
    return ask(k, *[body_by_words(told, n, inputs[:k] + (item,) + inputs[k + 1:], stuck) for item in (0, 1)])


def bodies_without_doubles(n, asked=()):
    """All bodies of n arguments that ask each argument once at most."""
    yield from (SAY_0, SAY_1, STOP)
    for k in range(n):
        if k not in asked:
            for zero, one in itertools.product(list(bodies_without_doubles(n, asked + (k,))), repeat=2):
                yield ask(k, zero, one)


class InputsTest(unittest.TestCase):
    def test_of_few(self):
        self.assertEqual(inputs_of(0), ((),))
        self.assertEqual(inputs_of(1), ((N,), (0,), (1,)))
        self.assertEqual(inputs_of(2), ((N, N), (N, 0), (N, 1), (0, N), (0, 0), (0, 1), (1, N), (1, 0), (1, 1)))

    def test_of_three(self):
        found = inputs_of(3)
        self.assertEqual(found[:4], ((N, N, N), (N, N, 0), (N, N, 1), (N, 0, N)))
        self.assertEqual(found[9], (0, N, N))
        self.assertEqual(found[-1], (1, 1, 1))
        self.assertEqual(found, all_inputs(3))

    def test_they_are_tuples(self):
        for n in range(4):
            self.assertIsInstance(inputs_of(n), tuple)
            self.assertEqual(len(inputs_of(n)), 3 ** n)
            for inputs in inputs_of(n):
                self.assertIsInstance(inputs, tuple)


class TableOfTest(unittest.TestCase):
    def test_of_no_arguments(self):
        self.assertEqual(table_of(0, program(0, SAY_0)), (0,))
        self.assertEqual(table_of(0, program(0, SAY_1)), (1,))
        self.assertEqual(table_of(0, program(0, STOP)), (N,))

    def test_of_one_argument(self):
        self.assertEqual(table_of(1, normal(read("fun x: o. x"))), (N, 0, 1))
        self.assertEqual(table_of(1, normal(read("fun x: o. if x then 0 else 1"))), (N, 1, 0))
        self.assertEqual(table_of(1, normal(read("fun x: o. 1"))), (1, 1, 1))
        self.assertEqual(table_of(1, normal(read("fun x: o. if x then stop else 1"))), (N, 1, N))

    def test_of_two_arguments_the_first_item_counts_most(self):
        self.assertEqual(table_of(2, normal(read("fun x: o. fun y: o. x"))), (N, N, N, 0, 0, 0, 1, 1, 1))
        self.assertEqual(table_of(2, normal(read("fun x: o. fun y: o. y"))), (N, 0, 1, N, 0, 1, N, 0, 1))
        self.assertEqual(
            table_of(2, normal(read("fun x: o. fun y: o. if x then 1 else y"))), (N, N, N, N, 0, 1, 1, 1, 1),
        )

    def test_of_three_arguments(self):
        found = table_of(3, normal(read("fun x: o. fun y: o. fun z: o. if z then x else y")))
        self.assertEqual(found, table_with(3, lambda i: N if i[2] is None else i[0] if i[2] == 1 else i[1]))

    def test_of_programs_that_never_answer(self):
        for n in range(4):
            self.assertEqual(table_of(n, program(n, STOP)), (N,) * 3 ** n)
            if n > 0:
                self.assertEqual(table_of(n, program(n, ask(0, STOP, STOP))), (N,) * 3 ** n)

    def test_of_programs_that_ask_again(self):
        self.assertEqual(table_of(1, program(1, ask(0, ask(0, SAY_1, SAY_0), ask(0, SAY_0, SAY_1)))), (N, 1, 1))

    def test_by_the_words(self):
        for n in range(4):
            for _, tried in some_programs(52 + n, 60, 12, (((),) * n,)):
                self.assertEqual(table_of(n, tried), table_by_words(n, tried))


class FallsTest(unittest.TestCase):
    def assert_falls(self, n, table, inputs, others):
        self.assertEqual(decide(n, table), ("falls", inputs, others))

    def test_one_argument(self):
        self.assert_falls(1, (0, 1, 0), (N,), (0,))
        self.assert_falls(1, (0, 0, 1), (N,), (1,))
        self.assert_falls(1, (1, 0, 0), (N,), (0,))
        self.assert_falls(1, (0, N, 0), (N,), (0,))
        self.assert_falls(1, (1, 1, N), (N,), (1,))

    def test_the_first_inputs_come_first_and_then_the_second_ones(self):
        self.assert_falls(2, (N, N, N, 0, 1, 0, 0, N, 0), (0, N), (0, 0))
        self.assert_falls(2, (N, N, 1, 0, 0, 0, N, N, N), (N, 1), (0, 1))
        self.assert_falls(2, (N, N, 1, 0, 0, 1, N, N, N), (N, 1), (1, 1))
        self.assert_falls(2, (N, N, N, 0, 0, 1, N, N, N), (0, N), (0, 1))
        self.assert_falls(2, (1, N, 1, 1, 1, 1, 0, 1, 1), (N, N), (N, 0))
        self.assert_falls(2, (1, 1, 1, 1, 1, 1, 0, 1, 1), (N, N), (1, N))
        self.assert_falls(2, (1, 1, 1, 1, 1, 1, 1, 1, N), (N, N), (1, 1))

    def test_falling_counts_before_being_stuck(self):
        self.assert_falls(2, PARALLEL_OR[:8] + (0,), (N, 1), (1, 1))

    def test_where_not_more_is_told_it_does_not_fall(self):
        self.assertEqual(decide(1, (N, 0, 1))[0], "program")
        self.assertEqual(decide(2, (N, N, N, 0, 0, 0, 1, 1, 1))[0], "program")

    def test_of_no_arguments_none_falls(self):
        for item in ITEMS:
            self.assertEqual(decide(0, (item,))[0], "program")


class StuckTest(unittest.TestCase):
    def test_at_the_beginning(self):
        self.assertEqual(decide(2, PARALLEL_OR), ("stuck", (N, N)))
        self.assertEqual(decide(2, (N, 0, N, N, 0, N, 0, 0, 0)), ("stuck", (N, N)))

    def test_where_one_answer_alone_is_told(self):
        self.assertEqual(decide(2, (N, 0, N, 0, 0, 0, N, 0, N)), ("stuck", (N, N)))

    def test_a_table_of_three_that_each_ask_two(self):
        # Answers where the items 0 and 1 are 0 1, the items 1 and 2, or the items 2 and 0.
        table = table_with(3, lambda i: 1 if (0, 1) in ((i[0], i[1]), (i[1], i[2]), (i[2], i[0])) else N)
        self.assertEqual(decide(3, table), ("stuck", (N, N, N)))

    def test_behind_an_ask(self):
        for first in (0, 1):
            table = table_with(3, lambda i: PARALLEL_OR[all_inputs(2).index(i[1:])] if i[0] == first else N)
            self.assertEqual(decide(3, table), ("stuck", (first, N, N)))
            table = table_with(3, lambda i: PARALLEL_OR[all_inputs(2).index(i[:2])] if i[2] == first else N)
            self.assertEqual(decide(3, table), ("stuck", (N, N, first)))
            table = table_with(3, lambda i: PARALLEL_OR[all_inputs(2).index(i[::2])] if i[1] == first else N)
            self.assertEqual(decide(3, table), ("stuck", (N, first, N)))

    def test_the_zero_comes_ahead_of_the_one(self):
        table = table_with(3, lambda i: N if i[0] is None else PARALLEL_OR[all_inputs(2).index(i[1:])])
        self.assertEqual(decide(3, table), ("stuck", (0, N, N)))
        table = table_with(3, lambda i: {N: N, 0: i[2], 1: PARALLEL_OR[all_inputs(2).index(i[1:])]}[i[0]])
        self.assertEqual(decide(3, table), ("stuck", (1, N, N)))

    def test_none_falls_and_is_stuck_only_if_it_must(self):
        for table in itertools.product(ITEMS, repeat=9):
            found = decide(2, table)
            if found[0] == "stuck":
                self.assertEqual(found, ("stuck", (N, N)))


class ProgramTest(unittest.TestCase):
    def assert_program(self, n, table, body):
        self.assertEqual(decide(n, table), ("program", ("program", n, body)))

    def test_of_no_arguments(self):
        self.assert_program(0, (N,), STOP)
        self.assert_program(0, (0,), SAY_0)
        self.assert_program(0, (1,), SAY_1)

    def test_none_alone(self):
        for n in range(4):
            self.assert_program(n, (N,) * 3 ** n, STOP)

    def test_the_same_answer_for_all(self):
        for n in range(4):
            self.assert_program(n, (0,) * 3 ** n, SAY_0)
            self.assert_program(n, (1,) * 3 ** n, SAY_1)

    def test_of_one_argument(self):
        self.assert_program(1, (N, 0, 1), ask(0, SAY_0, SAY_1))
        self.assert_program(1, (N, 1, 0), ask(0, SAY_1, SAY_0))
        self.assert_program(1, (N, 1, 1), ask(0, SAY_1, SAY_1))
        self.assert_program(1, (N, N, 0), ask(0, STOP, SAY_0))
        self.assert_program(1, (N, 1, N), ask(0, SAY_1, STOP))

    def test_an_argument_that_need_not_be_asked(self):
        self.assert_program(2, (N, N, N, 0, 0, 0, 1, 1, 1), ask(0, SAY_0, SAY_1))
        self.assert_program(2, (N, 0, 1, N, 0, 1, N, 0, 1), ask(1, SAY_0, SAY_1))
        self.assert_program(2, (N, N, N, N, 0, 1, 1, 1, 1), ask(0, ask(1, SAY_0, SAY_1), SAY_1))
        self.assert_program(2, (N, N, 1, N, N, 1, N, N, 1), ask(1, STOP, SAY_1))

    def test_the_first_argument_that_must_be_asked(self):
        self.assert_program(2, (N, N, N, N, 0, 0, N, 0, 1), ask(0, ask(1, SAY_0, SAY_0), ask(1, SAY_0, SAY_1)))
        self.assert_program(2, (N, N, N, N, N, N, N, N, 1), ask(0, STOP, ask(1, STOP, SAY_1)))
        self.assert_program(2, (N, N, N, N, N, 1, 0, 0, 0), ask(0, ask(1, STOP, SAY_1), SAY_0))
        self.assert_program(2, (N, N, 1, N, 0, 1, N, N, 1), ask(1, ask(0, SAY_0, STOP), SAY_1))
        self.assert_program(2, (N, 0, N, N, 0, N, N, 0, 1), ask(1, SAY_0, ask(0, STOP, SAY_1)))

    def test_of_three_arguments(self):
        # Two of three, left to right, as long as it takes.
        text = "fun x: o. fun y: o. fun z: o. if x then (if y then 1 else z) else (if y then z else 0)"
        body = ask(0, ask(1, SAY_0, ask(2, SAY_0, SAY_1)), ask(1, ask(2, SAY_0, SAY_1), SAY_1))
        self.assert_program(3, table_of(3, normal(read(text))), body)
        self.assert_program(3, table_of(3, normal(read("fun x: o. fun y: o. fun z: o. y"))), ask(1, SAY_0, SAY_1))

    def test_it_asks_as_told_whatever_the_program_of_the_table_asks(self):
        table = table_of(2, program(2, ask(1, ask(0, SAY_0, SAY_0), ask(0, SAY_1, SAY_0))))
        self.assert_program(2, table, ask(0, ask(1, SAY_0, SAY_1), ask(1, SAY_0, SAY_0)))
        table = table_of(2, program(2, ask(1, ask(1, SAY_0, SAY_1), ask(0, STOP, STOP))))
        self.assert_program(2, table, ask(1, SAY_0, STOP))


class WholeTest(unittest.TestCase):
    def assert_decided(self, n, table):
        found = decide(n, table)
        self.assertEqual(found, decide_by_words(n, table))
        if found[0] == "program":
            self.assertIs(is_program(((),) * n, found[1]), True)
            self.assertEqual(table_of(n, found[1]), table)
        return found[0]

    def test_all_tables_of_two_arguments_at_most(self):
        for n in range(3):
            of_programs = {table_by_words(n, program(n, body)) for body in bodies_without_doubles(n)}
            for table in itertools.product(ITEMS, repeat=3 ** n):
                self.assertEqual(self.assert_decided(n, table) == "program", table in of_programs)

    def test_tables_of_programs(self):
        for n in range(4):
            for _, tried in some_programs(56 + n, 120, 14, (((),) * n,)):
                self.assertEqual(self.assert_decided(n, table_of(n, tried)), "program")
                self.assertLessEqual(asks(decide(n, table_of(n, tried))[1]), 7)

    def test_tables_of_three_arguments(self):
        chance = random.Random(60)
        told = {"falls": 0, "stuck": 0, "program": 0}
        for number in range(500):
            answers = {inputs: chance.choice((N, N, N, 0, 1)) for inputs in all_inputs(3)}
            if number % 5 > 0:
                # Without falls: what is told for fewer items is told for all that tell more.
                answers = {inputs: chance.choice((N, 1)) if None not in inputs else N for inputs in all_inputs(3)}
                for inputs in all_inputs(3)[::-1]:
                    more = {answers[others] for others in all_inputs(3) if tells_more(others, inputs)}
                    if more == {1} and chance.random() < 0.7:
                        answers[inputs] = 1
            told[self.assert_decided(3, tuple(answers.values()))] += 1
        self.assertGreater(min(told.values()), 20)


if __name__ == "__main__":
    unittest.main()
