"""Nothing that is handed in is changed, and calls that are made again answer the same."""

import copy
import unittest

from playsense.checking import kind_of
from playsense.counting import count, listed
from playsense.errors import SenseFault
from playsense.kinds import depth, is_kind, kind_at, places
from playsense.learning import apart, common, is_within, joined, learned, pairs
from playsense.normal import normal, plain
from playsense.plays import alone, asker_sight, fault_of, open_asks, program_sight, steps_after
from playsense.programs import asks, handed, is_program, term_of
from playsense.strategies import fault_in, is_strategy, meaning, plays_of, program_of, reply
from playsense.tables import decide, inputs_of, table_of
from playsense.talks import copycat, fed, judge_talk, run, seen, thread, told_alone, uncovered
from playsense.terms import read, read_kind, write, write_kind

KIND = (((), ((),)), (), ((),))
TEXTS = (
    "fun f: o -> o. f (f 1)",
    "fun x: o. if x then 0 else x",
    "f 1",
    "fun x: o. x x",
    "",
    "x )",
    "x $",
    "if 0 then",
    "o -> (o -> o) -> o",
)


def told(function, *arguments):
    try:
        return function(*arguments)
    except SenseFault as fault:
        return type(fault), vars(fault)


def all_answers():
    answers = []
    for text in TEXTS:
        answers.append(told(read, text))
        answers.append(told(read_kind, text))
        answers.append(told(lambda: kind_of(read(text))))
        answers.append(told(lambda: write(read(text))))
    answers.append([is_kind(KIND), places(KIND), kind_at(KIND, (0, 1)), depth(KIND), write_kind(KIND)])
    return answers


HIGHER = (((),),)
LARGE = "fun x: o. (fun d: o -> o. d (d (d (d x)))) (fun y: o. if y then y else y)"


def all_answers_of_programs():
    program = normal(read("fun f: o -> o. f (f 1)"))
    other = normal(read("fun x: o. if x then 0 else 1"))
    return [
        program, other, told(lambda: normal(read(LARGE))), told(lambda: normal(read("fun x: o. x x"))),
        plain(program, (other,)), plain(other, (("program", 0, ("stop",)),)), asks(program), handed(HIGHER),
        is_program(HIGHER, program), is_program(HIGHER, other), term_of(HIGHER, program),
    ]


def all_answers_of_plays():
    strategy = meaning(HIGHER, normal(read("fun f: o -> o. f (f 1)")))
    plays = plays_of(strategy, 8)
    answers = [strategy, plays, is_strategy(strategy), is_strategy(strategy[:2]), program_of(strategy)]
    for play in plays[1:]:
        sight = program_sight(play[:-1])
        answers.append([sight, alone(play, sight), asker_sight(play), open_asks(play), steps_after(HIGHER, play)])
        answers.append([reply(strategy, play[:-1]), fault_in(strategy, play), fault_of(HIGHER, play + play)])
    return answers


def all_answers_of_talks():
    strategy = meaning(HIGHER, normal(read("fun f: o -> o. f (f 1)")))
    other = meaning(((),), normal(read("fun x: o. if x then 0 else 1")))
    talk = run(strategy, (other,))[1]
    larger = meaning(((),), normal(read("fun x: o. if x then (if x then x else 0) else x")))
    return [
        talk, run(strategy, (larger,)), thread(talk, 1), told_alone(talk, 3), seen(talk, 0), copycat(HIGHER),
        fed(strategy, 0, other), fed(copycat(HIGHER), 0, strategy), uncovered(strategy, 0, other, talk[:1]),
        judge_talk(strategy, 0, other, talk), judge_talk(strategy, 0, larger, talk),
        judge_talk(strategy, 0, other, talk[:3] + (["ask"], None)),
        told(lambda: fed(meaning(HIGHER, normal(read("fun f: o -> o. " + "f (" * 12 + "1" + ")" * 12))), 0, larger)),
    ]


def all_answers_of_learning():
    strategy = meaning(HIGHER, normal(read("fun f: o -> o. f (f 1)")))
    other = meaning(HIGHER, normal(read("fun f: o -> o. f (f 0)")))
    plays = plays_of(strategy, 6)
    return [
        [pairs(play) for play in plays], learned(HIGHER, plays), learned(HIGHER, plays + plays_of(other, 6)),
        is_within(strategy, other), common(strategy, other), joined(strategy, other), apart(strategy, other),
        joined(strategy, common(strategy, other)),
    ]


def all_answers_of_tables_and_counting():
    table = table_of(2, normal(read("fun x: o. fun y: o. if x then 1 else y")))
    return [
        inputs_of(2), table, decide(2, table), decide(2, table[::-1]), decide(2, (None, None, 1) * 3),
        decide(2, (None, None, 1, None, 0, 1, 1, 1, 1)), count(HIGHER, 3), count(KIND, 2), listed(HIGHER, 2),
        told(lambda: listed(KIND, 2)),
    ]


ALL = (
    all_answers, all_answers_of_programs, all_answers_of_plays, all_answers_of_talks, all_answers_of_learning,
    all_answers_of_tables_and_counting,
)


class RepeatsTest(unittest.TestCase):
    def test_calls_again_answer_the_same(self):
        first = [answers() for answers in ALL]
        for _ in range(2):
            self.assertEqual([answers() for answers in ALL], first)

    def test_calls_behind_others_in_another_order(self):
        backwards = [answers() for answers in ALL[::-1]]
        self.assertEqual([answers() for answers in ALL], backwards[::-1])

    def test_what_is_handed_in_stays(self):
        value = ((), [(), [None]], {"a": [()]})
        before = copy.deepcopy(value)
        self.assertIs(is_kind(value), False)
        self.assertEqual(value, before)
        self.assertIs(is_kind(value[1]), False)
        self.assertEqual(value, before)
        self.assertIs(is_program(HIGHER, value), False)
        self.assertIs(is_strategy(value), False)
        self.assertIs(is_strategy(("strategy", (), value)), False)
        self.assertEqual(fault_of(HIGHER, value), (0, "beginning"))
        self.assertEqual(value, before)
        strategy = copycat(())
        argument = meaning((), ("program", 0, ("say", 1)))
        self.assertIs(judge_talk(strategy, 0, argument, value), False)
        talk = ((("ask", ()), None), (("ask", (0,)), 0), [("say", [1]), 1])
        before = copy.deepcopy(talk)
        self.assertIs(judge_talk(strategy, 0, argument, talk), False)
        self.assertEqual(talk, before)

    def test_an_answer_that_is_spoilt_spoils_no_other(self):
        first = told(read, "x )")[1]
        first["at"] = 100
        self.assertEqual(told(read, "x )")[1], {"at": 2, "reason": "unexpected word"})


if __name__ == "__main__":
    unittest.main()
