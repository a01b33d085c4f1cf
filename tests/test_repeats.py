"""Nothing that is handed in is changed, and calls that are made again answer the same."""

import copy
import unittest

from playsense.checking import kind_of
from playsense.errors import SenseFault
from playsense.kinds import depth, is_kind, kind_at, places
from playsense.terms import read, read_kind, write, write_kind

KIND = (((), ((),)), (), ((),))
TEXTS = (
    "fun f: o -> o. f (f 1)",
    "fun x: o. if x then 0 else x",
    "f 1",
    "fun x: o. x x",
    "",
    "x )",
    "x $",
    "if 0 then",
    "o -> (o -> o) -> o",
)


def told(function, *arguments):
    try:
        return function(*arguments)
    except SenseFault as fault:
        return type(fault), vars(fault)


def all_answers():
    answers = []
    for text in TEXTS:
        answers.append(told(read, text))
        answers.append(told(read_kind, text))
        answers.append(told(lambda: kind_of(read(text))))
        answers.append(told(lambda: write(read(text))))
    answers.append([is_kind(KIND), places(KIND), kind_at(KIND, (0, 1)), depth(KIND), write_kind(KIND)])
    return answers


class RepeatsTest(unittest.TestCase):
    def test_calls_again_answer_the_same(self):
        first = all_answers()
        self.assertEqual(all_answers(), first)
        self.assertEqual(all_answers(), first)

    def test_what_is_handed_in_stays(self):
        value = ((), [(), [None]], {"a": [()]})
        before = copy.deepcopy(value)
        self.assertIs(is_kind(value), False)
        self.assertEqual(value, before)
        self.assertIs(is_kind(value[1]), False)
        self.assertEqual(value, before)

    def test_an_answer_that_is_spoilt_spoils_no_other(self):
        first = told(read, "x )")[1]
        first["at"] = 100
        self.assertEqual(told(read, "x )")[1], {"at": 2, "reason": "unexpected word"})


if __name__ == "__main__":
    unittest.main()
