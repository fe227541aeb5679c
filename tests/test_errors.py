import unittest

from callboard.errors import CallError, NoDeed, NoPlan, NoSheet

REFUSALS = (NoPlan, NoDeed, NoSheet)


class Classes(unittest.TestCase):
    def test_each_is_a_call_error_and_a_value_error(self):
        self.assertTrue(issubclass(CallError, ValueError))
        for refusal in REFUSALS:
            with self.subTest(refusal=refusal):
                self.assertTrue(issubclass(refusal, CallError))
                self.assertTrue(issubclass(refusal, ValueError))

    def test_none_is_under_another(self):
        for under in REFUSALS:
            for above in REFUSALS:
                if under is not above:
                    self.assertFalse(issubclass(under, above), (under, above))

    def test_call_error_is_none_of_them(self):
        for refusal in REFUSALS:
            self.assertFalse(issubclass(CallError, refusal))


class Values(unittest.TestCase):
    def test_no_deed_has_its_word(self):
        with self.assertRaises(CallError) as caught:
            raise NoDeed("bound")
        self.assertEqual(caught.exception.word, "bound")

    def test_no_sheet_has_its_line(self):
        with self.assertRaises(CallError) as caught:
            raise NoSheet(7)
        self.assertEqual(caught.exception.line, 7)

    def test_no_plan_is_made_with_a_text(self):
        with self.assertRaises(CallError) as caught:
            raise NoPlan("too many phones")
        self.assertEqual(str(caught.exception), "too many phones")


if __name__ == "__main__":
    unittest.main()
