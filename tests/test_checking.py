import unittest

from playsense.checking import kind_of
from playsense.errors import KindFault
from playsense.terms import read

O = ()
ONE = (O,)
TWO = (ONE,)


class KindsOfTermsTest(unittest.TestCase):
    def assert_kind(self, text, kind):
        self.assertEqual(kind_of(read(text)), kind, text)

    def test_answers_and_stop(self):
        self.assert_kind("0", O)
        self.assert_kind("1", O)
        self.assert_kind("stop", O)

    def test_names_and_funs(self):
        self.assert_kind("fun x: o. x", (O,))
        self.assert_kind("fun x: o. 1", (O,))
        self.assert_kind("fun f: o -> o. f", (ONE, O))
        self.assert_kind("fun f: (o -> o) -> o. f", (TWO, ONE))
        self.assert_kind("fun x: o. fun f: o -> o. x", (O, ONE))
        self.assert_kind("fun x: o. fun f: o -> o. f", (O, ONE, O))

    def test_applications(self):
        self.assert_kind("(fun x: o. x) 1", O)
        self.assert_kind("fun f: o -> o. f 1", (ONE,))
        self.assert_kind("fun f: o -> o -> o. f 1", ((O, O), O))
        self.assert_kind("fun f: o -> o -> o. f 1 0", ((O, O),))
        self.assert_kind("fun f: o -> o. f (f 1)", (ONE,))
        self.assert_kind("(fun x: o. fun f: o -> o. f) stop", (ONE, O))

    def test_functions_that_are_given_functions(self):
        self.assert_kind("(fun f: o -> o. f 1) (fun x: o. x)", O)
        self.assert_kind("fun g: (o -> o) -> o. g (fun x: o. x)", (TWO,))
        self.assert_kind("fun g: (o -> o) -> o -> o. g (fun x: o. x)", ((ONE, O), O))
        self.assert_kind("fun f: o -> o -> o. fun g: (o -> o) -> o. g (f 1)", ((O, O), TWO))
        self.assert_kind("(fun h: ((o -> o) -> o) -> o. h (fun f: o -> o. f 0)) (fun g: (o -> o) -> o. stop)", O)

    def test_ifs(self):
        self.assert_kind("if 1 then 0 else stop", O)
        self.assert_kind("fun x: o. if x then x else 0", (O,))
        self.assert_kind("fun f: o -> o. if f 0 then f 1 else if f 0 then 1 else f stop", (ONE,))

    def test_a_name_means_the_innermost_fun(self):
        self.assert_kind("fun x: o. fun x: o -> o. x", (O, ONE, O))
        self.assert_kind("fun x: o -> o. fun x: o. x", (ONE, O))
        self.assert_kind("fun x: o -> o. x ((fun x: o. x) 1)", (ONE,))
        self.assert_kind("fun x: o -> o. (fun x: o. x) (x 1)", (ONE,))
        self.assert_kind("fun x: o. (fun x: o -> o. x 1) (fun x: o. x)", (O,))
        self.assert_kind("fun x: o. if (fun x: o -> o. x 1) (fun z: o. x) then x else x", (O,))

    def test_four_hundred_parts_and_more(self):
        for many in (399, 1500):
            term = ("answer", 0)
            for _ in range(many):
                term = ("fun", "x", O, term)
            self.assertEqual(kind_of(term), (O,) * many)
        term = ("name", "f")
        for _ in range(199):
            term = ("apply", term, ("answer", 1))
        self.assertEqual(kind_of(("fun", "f", (O,) * 200, term)), ((O,) * 200, O))
        term = ("answer", 1)
        for _ in range(130):
            term = ("if", term, ("answer", 0), ("stop",))
        self.assertEqual(kind_of(term), O)


class FaultsTest(unittest.TestCase):
    def assert_fault(self, text, path, reason):
        with self.assertRaises(KindFault) as caught:
            kind_of(read(text))
        self.assertEqual((caught.exception.path, caught.exception.reason), (path, reason), text)
        self.assertIs(type(caught.exception), KindFault)

    def test_unknown_name(self):
        self.assert_fault("x", (), "unknown name")
        self.assert_fault("fun x: o. y", (0,), "unknown name")
        self.assert_fault("fun x: o. fun y: o. z", (0, 0), "unknown name")
        self.assert_fault("fun f: o -> o. f y", (0, 1), "unknown name")
        self.assert_fault("fun x: o. f x", (0, 0), "unknown name")
        self.assert_fault("if x then 0 else 1", (0,), "unknown name")
        self.assert_fault("if 1 then x else 1", (1,), "unknown name")
        self.assert_fault("if 1 then 0 else x", (2,), "unknown name")

    def test_a_name_outside_of_its_fun(self):
        self.assert_fault("(fun x: o. x) x", (1,), "unknown name")
        self.assert_fault("fun f: o -> o. f ((fun x: o. x) 1 x)", (0, 1, 1), "unknown name")
        self.assert_fault("fun f: (o -> o) -> o -> o. f (fun x: o. x) x", (0, 1), "unknown name")
        self.assert_fault("if (fun x: o. x) 1 then x else 0", (1,), "unknown name")

    def test_no_function(self):
        self.assert_fault("0 1", (), "no function")
        self.assert_fault("stop stop", (), "no function")
        self.assert_fault("fun x: o. x x", (0,), "no function")
        self.assert_fault("(fun x: o. x) 1 0", (), "no function")
        self.assert_fault("fun f: o -> o. f 1 0 0", (0, 0), "no function")
        self.assert_fault("(if 1 then 0 else 1) 0", (), "no function")
        self.assert_fault("fun x: o. x (fun y: o. y)", (0,), "no function")

    def test_other_argument(self):
        self.assert_fault("(fun x: o. x) (fun x: o. x)", (), "other argument")
        self.assert_fault("fun f: (o -> o) -> o. f 1", (0,), "other argument")
        self.assert_fault("fun f: (o -> o) -> o. f f", (0,), "other argument")
        self.assert_fault("fun f: o -> (o -> o) -> o. f 1 1", (0,), "other argument")
        self.assert_fault("fun f: (o -> o) -> o -> o. f 1 1", (0, 0), "other argument")
        self.assert_fault("fun f: (o -> o) -> o. f (fun x: o. fun y: o. x)", (0,), "other argument")

    def test_no_answer(self):
        self.assert_fault("if fun x: o. x then 0 else 1", (0,), "no answer")
        self.assert_fault("if 1 then fun x: o. x else 1", (1,), "no answer")
        self.assert_fault("if 1 then 0 else fun x: o. x", (2,), "no answer")
        self.assert_fault("fun f: o -> o. if f then f else f", (0, 0), "no answer")
        self.assert_fault("fun f: o -> o. if f 1 then f else f", (0, 1), "no answer")
        self.assert_fault("fun f: o -> o. if f 1 then f 0 else f", (0, 2), "no answer")
        self.assert_fault("if if 0 then fun x: o. x else 1 then 0 else 1", (0, 1), "no answer")

    def test_an_if_only_when_all_its_parts_have_kinds(self):
        self.assert_fault("if fun x: o. x then 0 else y", (2,), "unknown name")
        self.assert_fault("if fun x: o. x then y else z", (1,), "unknown name")
        self.assert_fault("if fun x: o. x then 0 else 1 1", (2,), "no function")
        self.assert_fault("if fun x: o. x then if 1 then 0 else fun y: o. y else 0", (1, 2), "no answer")

    def test_parts_before_what_they_are_part_of(self):
        self.assert_fault("0 x", (1,), "unknown name")
        self.assert_fault("0 (1 1)", (1,), "no function")
        self.assert_fault("(fun x: o. x) (fun x: o. y)", (1, 0), "unknown name")
        self.assert_fault("fun x: o. x (x x)", (0, 1), "no function")
        self.assert_fault("0 1 x", (0,), "no function")

    def test_from_left_to_right(self):
        self.assert_fault("x y", (0,), "unknown name")
        self.assert_fault("(0 1) y", (0,), "no function")
        self.assert_fault("x (y z)", (0,), "unknown name")
        self.assert_fault("(0 1) (fun x: o. fun x: o. y)", (0,), "no function")
        self.assert_fault("if x then y z else if 0 0 then 0 else 1", (0,), "unknown name")
        self.assert_fault("fun x: o. x x (fun y: o. z)", (0, 0), "no function")
        self.assert_fault("if x then y else z", (0,), "unknown name")
        self.assert_fault("if 1 then 0 0 else z", (1,), "no function")
        self.assert_fault("(fun x: o. y) (0 0)", (0, 0), "unknown name")

    def test_the_first_fault_in_a_deep_term(self):
        term = ("name", "x")
        for _ in range(399):
            term = ("fun", "y", O, term)
        with self.assertRaises(KindFault) as caught:
            kind_of(term)
        self.assertEqual(caught.exception.path, (0,) * 399)


if __name__ == "__main__":
    unittest.main()
