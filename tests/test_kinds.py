import unittest

from playsense.kinds import depth, is_kind, kind_at, places

O = ()
ONE = (O,)
TWO = (ONE,)
THREE = (TWO,)
UNLIKE = (O, TWO, ONE, O)


def nested(levels):
    kind = ()
    for _ in range(levels):
        kind = (kind,)
    return kind


class IsKindTest(unittest.TestCase):
    def test_kinds(self):
        for kind in (O, ONE, TWO, THREE, (O, O), (ONE, O), UNLIKE, (UNLIKE, O, (UNLIKE,))):
            self.assertIs(is_kind(kind), True)

    def test_kinds_beyond_the_bounds(self):
        self.assertIs(is_kind((O,) * 5), True)
        self.assertIs(is_kind(nested(4)), True)
        self.assertIs(is_kind((ONE,) * 100000), True)
        self.assertIs(is_kind(((((O,) * 9,) * 9,) * 9,) * 9), True)

    def test_kinds_deeper_than_calls_can_be(self):
        self.assertIs(is_kind(nested(100000)), True)
        self.assertIs(is_kind((O, nested(100000), ONE)), True)

    def test_whatever_else_is_none(self):
        for value in ([], None, 0, 1, -3, 1.5, True, False, "", "o", "o -> o", b"", {}, set(), object()):
            for whole in (value, (value,), (O, value), (value, O), ((O, (value,)), O), (O, (O, (O, (O, value))))):
                self.assertIs(is_kind(whole), False, whole)

    def test_a_wrong_value_deep_within(self):
        kind = (None,)
        for _ in range(50000):
            kind = (O, kind)
        self.assertIs(is_kind(kind), False)

    def test_lists_of_kinds_are_none(self):
        self.assertIs(is_kind([O]), False)
        self.assertIs(is_kind((O, [O, O])), False)


class PlacesTest(unittest.TestCase):
    def test_places(self):
        self.assertEqual(places(O), ((),))
        self.assertEqual(places(ONE), ((), (0,)))
        self.assertEqual(places(TWO), ((), (0,), (0, 0)))
        self.assertEqual(places((O, O, O)), ((), (0,), (1,), (2,)))
        self.assertEqual(places((ONE, O)), ((), (0,), (0, 0), (1,)))
        self.assertEqual(places(UNLIKE), ((), (0,), (1,), (1, 0), (1, 0, 0), (2,), (2, 0), (3,)))

    def test_they_rise_and_are_there(self):
        for kind in (O, THREE, UNLIKE, (TWO, TWO, (O, O, O), O), (UNLIKE, UNLIKE)):
            found = places(kind)
            self.assertIsInstance(found, tuple)
            self.assertEqual(found, tuple(sorted(set(found))))
            for place in found:
                self.assertIsNotNone(kind_at(kind, place))
                self.assertIsNone(kind_at(kind, place + (len(kind_at(kind, place)),)))

    def test_more_than_ten_arguments_stay_in_order(self):
        self.assertEqual(places((O,) * 12), ((),) + tuple((k,) for k in range(12)))


class KindAtTest(unittest.TestCase):
    def test_each_place(self):
        kind = ((ONE, O), O, TWO)
        expected = {
            (): kind,
            (0,): (ONE, O),
            (0, 0): ONE,
            (0, 0, 0): O,
            (0, 1): O,
            (1,): O,
            (2,): TWO,
            (2, 0): ONE,
            (2, 0, 0): O,
        }
        self.assertEqual(places(kind), tuple(sorted(expected)))
        for place, inner in expected.items():
            self.assertEqual(kind_at(kind, place), inner)

    def test_no_such_place(self):
        self.assertIsNone(kind_at(O, (0,)))
        self.assertIsNone(kind_at(O, (0, 0)))
        self.assertIsNone(kind_at(ONE, (1,)))
        self.assertIsNone(kind_at(ONE, (0, 0)))
        self.assertIsNone(kind_at((O, ONE), (0, 0)))
        self.assertIsNone(kind_at((O, ONE), (2,)))
        self.assertIsNone(kind_at((O, ONE), (2, 0)))
        self.assertIsNone(kind_at((O, ONE), (1, 0, 0)))

    def test_places_are_counted_from_the_front_alone(self):
        self.assertIsNone(kind_at((O, ONE), (-1,)))
        self.assertIsNone(kind_at((O, ONE), (1, -1)))


class DepthTest(unittest.TestCase):
    def test_up_to_three_deep(self):
        self.assertEqual([depth(kind) for kind in (O, ONE, TWO, THREE)], [0, 1, 2, 3])

    def test_several_arguments_of_unlike_depth(self):
        self.assertEqual(depth((O, O)), 1)
        self.assertEqual(depth((O, ONE)), 2)
        self.assertEqual(depth((ONE, O)), 2)
        self.assertEqual(depth((O, ONE, O)), 2)
        self.assertEqual(depth(UNLIKE), 3)
        self.assertEqual(depth((TWO, O, ONE)), 3)
        self.assertEqual(depth((ONE, O, TWO)), 3)
        self.assertEqual(depth(((O, ONE, O), ONE)), 3)

    def test_somewhat_beyond_the_bounds(self):
        self.assertEqual(depth(nested(300)), 300)
        self.assertEqual(len(places(nested(300))), 301)
        self.assertEqual(kind_at(nested(300), (0,) * 299), ONE)


if __name__ == "__main__":
    unittest.main()
