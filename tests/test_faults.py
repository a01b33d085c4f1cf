"""[g4]: legal plays, and the first fault of another one."""

import unittest

from oracles import BEGINNING, BINARY, KINDS, O, ONE, THREE, TWO, ask, goes_on_legally, say, some_plays
from playsense.plays import fault_of

# A play of the kind ((o -> o) -> o) -> o behind whose last step both players see much.
DEEP = (BEGINNING, ask((0,), 0), ask((0, 0), 1), ask((0,), 0), ask((0, 0), 3), ask((0, 0, 0), 2))
NO_STEPS = (
    None, 0, 1, True, "", "ask", b"say", (), [], {}, object(), 1.5, ("ask", ()), (("ask", (0,)),),
    (("ask", (0,)), 0, 0), [("ask", (0,)), 0], ((), 0), (("ask",), 0), (("ask", (0,), 0), 0), (["ask", (0,)], 0),
    (("ask", [0]), 0),
    (("ask", 0), 0), (("ask", "0"), 0), (("ask", None), 0), (("ask", (-1,)), 0), (("ask", (True,)), 0),
    (("ask", (False,)), 0), (("ask", ("0",)), 0), (("ask", (0.0,)), 0), (("ask", ((0,),)), 0), (("ask", (None,)), 0),
    (("say", 2), 0), (("say", -1), 0), (("say", True), 0), (("say", False), 0), (("say", None), 0), (("say", "0"), 0),
    (("say", (0,)), 0), (("say",), 0), (("say", 0, 0), 0), (("Ask", (0,)), 0), (("stop", ()), 0), ((None, (0,)), 0),
    ((0, 1), 0), ("say0", 0), (None, 0), (0, 0), (("ask", (0,)), None), (("ask", (0,)), "0"), (("ask", (0,)), 0.0),
    (("ask", (0,)), -1), (("ask", (0,)), False), (("ask", (0,)), (0,)), (("ask", (0,)), ()), (("say", 1), True),
)


class FaultOfTest(unittest.TestCase):
    def assert_fault(self, kind, play, number, reason):
        self.assertEqual(fault_of(kind, play), (number, reason), play)

    def assert_legal(self, kind, play):
        self.assertIsNone(fault_of(kind, play), play)

    def test_the_empty_play(self):
        for kind in KINDS:
            self.assert_legal(kind, ())

    def test_legal_plays(self):
        for kind in KINDS:
            self.assert_legal(kind, (BEGINNING,))
            self.assert_legal(kind, (BEGINNING, say(0, 0)))
            self.assert_legal(kind, (BEGINNING, say(1, 0)))
        for many in range(len(DEEP) + 1):
            self.assert_legal(THREE, DEEP[:many])
        self.assert_legal(BINARY, (BEGINNING, ask((1,), 0), say(0, 1), ask((0,), 0), say(1, 3), say(0, 0)))

    def test_legal_plays_of_many_kinds(self):
        for kind in KINDS:
            for play in some_plays(15, kind, 10, 40):
                for many in range(len(play) + 1):
                    self.assert_legal(kind, play[:many])

    def test_beginning(self):
        for step in (say(0, 0), say(1, None), ask((), 0), ask((0,), None), ask((0,), 0), (("ask", []), None),
                     (["ask", ()], None), [("ask", ()), None], (("ask", ()),), (("ask", ()), None, None), ("ask", ()),
                     (("Ask", ()), None), (("ask", ()), False), (("ask", ()), ()), ((), None), (("ask", None), None),
                     *NO_STEPS):
            for kind in (O, TWO):
                self.assert_fault(kind, (step,), 0, "beginning")
                self.assert_fault(kind, (step, say(0, 0)), 0, "beginning")

    def test_shape(self):
        for step in (*NO_STEPS, BEGINNING):
            self.assert_fault(TWO, (BEGINNING, step), 1, "shape")
            self.assert_fault(THREE, DEEP[:3] + (step,), 3, "shape")
            self.assert_fault(THREE, DEEP + (step,), 6, "shape")

    def test_shape_backs_that_are_no_earlier_step(self):
        for number in range(1, 6):
            for back in (number, number + 1, number + 2, 100, -1, -number, 2 ** 70):
                for move in (DEEP[number][0], ("say", 0)):
                    self.assert_fault(THREE, DEEP[:number] + ((move, back),), number, "shape")

    def test_own(self):
        self.assert_fault(TWO, (BEGINNING, ask((0,), 0), ask((0,), 0)), 2, "own")
        self.assert_fault(TWO, (BEGINNING, ask((0,), 0), say(0, 0)), 2, "own")
        self.assert_fault(THREE, DEEP[:3] + (say(1, 1),), 3, "own")
        self.assert_fault(THREE, DEEP[:3] + (ask((0, 0, 0), 1),), 3, "own")
        self.assert_fault(THREE, DEEP + (say(1, 2),), 6, "own")
        self.assert_fault(THREE, DEEP + (ask((), 4),), 6, "own")

    def test_place_no_ask(self):
        answered = (BEGINNING, ask((0,), 0), say(1, 1))
        self.assert_fault(ONE, answered + (say(1, 2),), 3, "place")
        self.assert_fault(ONE, answered + (ask((0,), 2),), 3, "place")
        self.assert_fault(O, (BEGINNING, say(1, 0), say(1, 1)), 2, "place")
        self.assert_fault(ONE, (BEGINNING, say(1, 0), ask((0,), 1)), 2, "place")

    def test_place_not_one_number_more(self):
        for place in ((), (0, 0), (0, 0, 0), (1,), (1, 0), (2,)):
            self.assert_fault(THREE, (BEGINNING, ask(place, 0)), 1, "place")
        for place in ((), (0,), (0, 0, 0), (1, 0), (1,), (0, 1), (0, 2), (0, 10 ** 30)):
            self.assert_fault(THREE, (BEGINNING, ask((0,), 0), ask(place, 1)), 2, "place")
        for place in ((), (0,), (0, 0), (0, 0, 0, 0), (0, 1, 0), (0, 0, 1)):
            self.assert_fault(THREE, DEEP[:3] + (ask(place, 2),), 3, "place")

    def test_place_no_place_of_the_kind(self):
        self.assert_fault(O, (BEGINNING, ask((0,), 0)), 1, "place")
        self.assert_fault(ONE, (BEGINNING, ask((1,), 0)), 1, "place")
        self.assert_fault(ONE, (BEGINNING, ask((0,), 0), ask((0, 0), 1)), 2, "place")
        self.assert_fault((O, ONE), (BEGINNING, ask((0,), 0), ask((0, 0), 1)), 2, "place")
        self.assert_legal((O, ONE), (BEGINNING, ask((1,), 0), ask((1, 0), 1)))
        self.assert_fault(TWO, DEEP, 5, "place")

    def test_closed(self):
        self.assert_fault(ONE, (BEGINNING, ask((0,), 0), say(1, 1), say(1, 0), say(1, 1)), 4, "closed")
        play = (BEGINNING, ask((0,), 0), ask((0, 0), 1), say(0, 2))
        self.assert_fault(TWO, play + (say(1, 1), say(0, 2)), 5, "closed")
        self.assert_fault(TWO, play + (ask((0, 0), 1), say(0, 2)), 5, "closed")
        self.assert_fault(TWO, play + (say(1, 1), say(0, 0), say(0, 1)), 6, "closed")

    def test_bracket(self):
        self.assert_fault(TWO, DEEP[:3] + (say(1, 0),), 3, "bracket")
        self.assert_fault(THREE, DEEP[:5] + (say(0, 2),), 5, "bracket")
        self.assert_fault(THREE, DEEP[:5] + (say(0, 0),), 5, "bracket")
        self.assert_fault(TWO, DEEP[:4] + (say(0, 1),), 4, "bracket")
        self.assert_fault(THREE, DEEP + (say(0, 1),), 6, "bracket")
        self.assert_fault(THREE, DEEP + (say(0, 3),), 6, "bracket")

    def test_sight_of_the_asker(self):
        # The asker's ask 4 would answer to the step 1, but behind the step 3 it sees 0 and 3.
        self.assert_fault(TWO, DEEP[:4] + (ask((0, 0), 1),), 4, "sight")
        self.assert_legal(TWO, DEEP[:4] + (ask((0, 0), 3),))

    def test_sight_of_the_program(self):
        play = (BEGINNING, ask((0,), 0), ask((0, 0), 1), ask((0, 0, 0), 2), say(1, 3), say(1, 2), ask((0, 0), 1))
        self.assert_legal(THREE, play)
        self.assert_fault(THREE, play + (ask((0, 0, 0), 2),), 7, "sight")
        self.assert_legal(THREE, play + (ask((0, 0, 0), 6),))

    def test_asks_may_answer_to_what_is_not_the_last_open_ask(self):
        play = (BEGINNING, ask((0,), 0), ask((0, 0), 1), ask((0, 0, 0), 2), ask((0, 0, 0, 0), 3))
        kind = (THREE,)
        self.assert_legal(kind, play + (ask((0,), 0),))
        self.assert_legal(kind, play + (ask((0, 0, 0), 2),))

    def test_the_first_reason_that_holds_is_told(self):
        # Own, place and bracket or sight at once.
        self.assert_fault(TWO, (BEGINNING, ask((0,), 0), ask((5,), 0)), 2, "own")
        # No ask and another player's, none open and not seen.
        play = (BEGINNING, ask((0,), 0), ask((0, 0), 1), say(0, 2), ask((0, 0), 1))
        self.assert_fault(TWO, play + (say(0, 3),), 5, "own")
        answered = (BEGINNING, ask((0,), 0), say(1, 1), ask((0,), 0), say(1, 3))
        self.assert_fault(ONE, answered + (say(0, 2),), 5, "place")
        # Closed, not the last open ask, and not seen.
        self.assert_fault(TWO, play + (say(0, 2),), 5, "closed")
        # Not the last open ask, and not seen.
        self.assert_fault(TWO, DEEP[:4] + (say(0, 1),), 4, "bracket")
        # A wrong place of what is not seen.
        self.assert_fault(TWO, DEEP[:4] + (ask((0, 1), 1),), 4, "place")
        # A shape that is wrong, and a back that is the player's own.
        self.assert_fault(TWO, (BEGINNING, ask((0,), 0), say(2, 0)), 2, "shape")
        # The step 0 is of the wrong shape, too.
        self.assert_fault(TWO, (say(2, 7),), 0, "beginning")

    def test_the_first_step_that_is_not_right_is_told(self):
        self.assert_fault(TWO, (say(0, 0), None), 0, "beginning")
        self.assert_fault(TWO, (BEGINNING, ask((1,), 0), ask((1, 0), 1)), 1, "place")
        self.assert_fault(TWO, (BEGINNING, ask((0,), 0), say(0, 0), "x"), 2, "own")
        self.assert_fault(TWO, DEEP[:3] + (say(1, 0), say(1, 9)), 3, "bracket")
        self.assert_fault(TWO, DEEP[:4] + (ask((0, 0), 1), ask((0,), 2)), 4, "sight")
        self.assert_fault(O, (BEGINNING, BEGINNING, BEGINNING), 1, "shape")

    def test_each_reason_at_the_first_step_behind_the_beginning(self):
        for step, reason in ((None, "shape"), (ask((0,), 1), "shape"), (ask((1,), 0), "place"), (say(1, 1), "shape")):
            self.assert_fault(ONE, (BEGINNING, step), 1, reason)

    def test_plays_that_are_longer_than_may_be(self):
        play = (BEGINNING,)
        while len(play) < 300:
            play += (ask((0,), 0), say(1, len(play)))
        self.assert_legal(ONE, play)
        self.assert_legal(ONE, play + (say(0, 0),))
        self.assert_fault(ONE, play + (say(0, 2),), len(play), "place")
        self.assert_fault(ONE, play + (ask((0,), 0), say(0, 1)), len(play) + 1, "closed")

    def test_deep_values_are_no_steps(self):
        value = ()
        for _ in range(50000):
            value = (value,)
        self.assert_fault(TWO, (value,), 0, "beginning")
        self.assert_fault(TWO, (BEGINNING, value), 1, "shape")
        self.assert_fault(TWO, (BEGINNING, (value, 0)), 1, "shape")
        self.assert_fault(TWO, (BEGINNING, (("ask", value), 0)), 1, "shape")
        self.assert_fault(TWO, (BEGINNING, (("say", value), 0)), 1, "shape")
        self.assert_fault(TWO, (BEGINNING, (("ask", (0,)), value)), 1, "shape")

    def test_faults_by_trying_all_steps(self):
        for kind in (ONE, TWO, (ONE, O), THREE):
            moves = [("ask", place) for place in ((), (0,), (1,), (0, 0), (0, 1), (0, 0, 0), (1, 0))]
            moves += [("say", 0), ("say", 1), ("say", 2)]
            for play in some_plays(16, kind, 6, 16):
                for many in range(1, len(play) + 1):
                    before = play[:many]
                    for move in moves:
                        for back in range(-1, many + 2):
                            step = (move, back)
                            legal = move != ("say", 2) and goes_on_legally(kind, before, step)
                            fault = fault_of(kind, before + (step,))
                            self.assertEqual(fault is None, legal, before + (step,))
                            if fault is not None:
                                self.assertEqual(fault[0], many)


if __name__ == "__main__":
    unittest.main()
