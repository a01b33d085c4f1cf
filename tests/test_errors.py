import unittest

from playsense.errors import KindFault, SenseFault, TextFault, TooMany


class ErrorsTest(unittest.TestCase):
    def test_bases(self):
        self.assertEqual(SenseFault.__bases__, (ValueError,))
        for fault in (TextFault, KindFault, TooMany):
            self.assertTrue(issubclass(fault, SenseFault))
        self.assertFalse(issubclass(TextFault, KindFault))
        self.assertFalse(issubclass(KindFault, TextFault))
        self.assertFalse(issubclass(TextFault, TooMany))
        self.assertFalse(issubclass(KindFault, TooMany))
        self.assertFalse(issubclass(TooMany, (TextFault, KindFault)))

    def test_text_fault_has_its_fields(self):
        fault = TextFault(7, "too long")
        self.assertEqual((fault.at, fault.reason), (7, "too long"))

    def test_kind_fault_has_its_fields(self):
        fault = KindFault((0, 1), "no answer")
        self.assertEqual((fault.path, fault.reason), ((0, 1), "no answer"))
        self.assertEqual(KindFault((), "no function").path, ())

    def test_too_many_is_made_of_nothing(self):
        self.assertIsInstance(TooMany(), SenseFault)

    def test_each_is_caught_as_the_base_and_as_a_value_error(self):
        for base in (SenseFault, ValueError):
            for fault in (TextFault(0, "unknown sign"), KindFault((), "no answer"), TooMany()):
                with self.assertRaises(base):
                    raise fault

    def test_they_can_be_told_as_texts(self):
        for fault in (TextFault(0, "unknown sign"), KindFault((1,), "no answer"), TooMany()):
            self.assertIsInstance(str(fault), str)


if __name__ == "__main__":
    unittest.main()
