"""Point 2 and the interface: the refusals' classes."""

import unittest

from rentshare.errors import NoAmount, NoLine, RentError, TooFew, TooMany

REFUSALS = [NoAmount, NoLine, TooFew, TooMany]


class Order(unittest.TestCase):
    def test_rent_error_stands_under_value_error(self):
        self.assertEqual(RentError.__bases__, (ValueError,))

    def test_each_refusal_stands_under_rent_error_and_value_error(self):
        for refusal in REFUSALS:
            with self.subTest(refusal=refusal):
                self.assertTrue(issubclass(refusal, RentError))
                self.assertTrue(issubclass(refusal, ValueError))

    def test_no_refusal_stands_under_another(self):
        for one in REFUSALS:
            for other in REFUSALS:
                with self.subTest(one=one, other=other):
                    self.assertEqual(issubclass(one, other), one is other)

    def test_rent_error_stands_under_no_refusal(self):
        for refusal in REFUSALS:
            with self.subTest(refusal=refusal):
                self.assertFalse(issubclass(RentError, refusal))

    def test_a_raised_refusal_is_taken_as_itself_alone(self):
        for made in [NoAmount("a"), NoLine(1), TooFew("b"), TooMany("c")]:
            with self.subTest(made=made):
                with self.assertRaises(RentError) as taken:
                    raise made
                kinds = [kind for kind in REFUSALS if isinstance(taken.exception, kind)]
                self.assertEqual(kinds, [type(made)])


class Values(unittest.TestCase):
    def test_line_of_no_line(self):
        for line in [1, 2, 17, 200]:
            with self.subTest(line=line):
                self.assertEqual(NoLine(line).line, line)

    def test_line_of_a_raised_no_line(self):
        with self.assertRaises(NoLine) as taken:
            raise NoLine(12)
        self.assertEqual(taken.exception.line, 12)

    def test_each_no_line_has_its_own_line(self):
        one = NoLine(3)
        other = NoLine(4)
        self.assertEqual((one.line, other.line), (3, 4))

    def test_the_others_are_made_with_a_text(self):
        for refusal in [RentError, NoAmount, TooFew, TooMany]:
            with self.subTest(refusal=refusal):
                self.assertIsInstance(refusal("why"), refusal)


if __name__ == "__main__":
    unittest.main()
