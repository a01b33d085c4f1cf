"""Nothing that is handed in is changed, and calls that are made again answer the same."""

import copy
import unittest

from playsense.checking import kind_of
from playsense.errors import SenseFault
from playsense.kinds import depth, is_kind, kind_at, places
from playsense.normal import normal, plain
from playsense.plays import alone, asker_sight, fault_of, open_asks, program_sight, steps_after
from playsense.programs import asks, handed, is_program, term_of
from playsense.strategies import fault_in, is_strategy, meaning, plays_of, program_of, reply
from playsense.terms import read, read_kind, write, write_kind

KIND = (((), ((),)), (), ((),))
TEXTS = (
    "fun f: o -> o. f (f 1)",
    "fun x: o. if x then 0 else x",
    "f 1",
    "fun x: o. x x",
    "",
    "x )",
    "x $",
    "if 0 then",
    "o -> (o -> o) -> o",
)


def told(function, *arguments):
    try:
        return function(*arguments)
    except SenseFault as fault:
        return type(fault), vars(fault)


def all_answers():
    answers = []
    for text in TEXTS:
        answers.append(told(read, text))
        answers.append(told(read_kind, text))
        answers.append(told(lambda: kind_of(read(text))))
        answers.append(told(lambda: write(read(text))))
    answers.append([is_kind(KIND), places(KIND), kind_at(KIND, (0, 1)), depth(KIND), write_kind(KIND)])
    return answers


HIGHER = (((),),)
LARGE = "fun x: o. (fun d: o -> o. d (d (d (d x)))) (fun y: o. if y then y else y)"


def all_answers_of_programs():
    program = normal(read("fun f: o -> o. f (f 1)"))
    other = normal(read("fun x: o. if x then 0 else 1"))
    return [
        program, other, told(lambda: normal(read(LARGE))), told(lambda: normal(read("fun x: o. x x"))),
        plain(program, (other,)), plain(other, (("program", 0, ("stop",)),)), asks(program), handed(HIGHER),
        is_program(HIGHER, program), is_program(HIGHER, other), term_of(HIGHER, program),
    ]


def all_answers_of_plays():
    strategy = meaning(HIGHER, normal(read("fun f: o -> o. f (f 1)")))
    plays = plays_of(strategy, 8)
    answers = [strategy, plays, is_strategy(strategy), is_strategy(strategy[:2]), program_of(strategy)]
    for play in plays[1:]:
        sight = program_sight(play[:-1])
        answers.append([sight, alone(play, sight), asker_sight(play), open_asks(play), steps_after(HIGHER, play)])
        answers.append([reply(strategy, play[:-1]), fault_in(strategy, play), fault_of(HIGHER, play + play)])
    return answers


class RepeatsTest(unittest.TestCase):
    def test_calls_again_answer_the_same(self):
        first = all_answers()
        programs = all_answers_of_programs()
        plays = all_answers_of_plays()
        for _ in range(2):
            self.assertEqual(all_answers(), first)
            self.assertEqual(all_answers_of_programs(), programs)
            self.assertEqual(all_answers_of_plays(), plays)

    def test_calls_behind_others_in_another_order(self):
        plays = all_answers_of_plays()
        programs = all_answers_of_programs()
        self.assertEqual(all_answers_of_plays(), plays)
        self.assertEqual(all_answers_of_programs(), programs)

    def test_what_is_handed_in_stays(self):
        value = ((), [(), [None]], {"a": [()]})
        before = copy.deepcopy(value)
        self.assertIs(is_kind(value), False)
        self.assertEqual(value, before)
        self.assertIs(is_kind(value[1]), False)
        self.assertEqual(value, before)
        self.assertIs(is_program(HIGHER, value), False)
        self.assertIs(is_strategy(value), False)
        self.assertIs(is_strategy(("strategy", (), value)), False)
        self.assertEqual(fault_of(HIGHER, value), (0, "beginning"))
        self.assertEqual(value, before)

    def test_an_answer_that_is_spoilt_spoils_no_other(self):
        first = told(read, "x )")[1]
        first["at"] = 100
        self.assertEqual(told(read, "x )")[1], {"at": 2, "reason": "unexpected word"})


if __name__ == "__main__":
    unittest.main()
