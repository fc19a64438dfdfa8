"""Points 4 and 5: amounts and shares as texts."""

import itertools
import re
import unittest
from fractions import Fraction

from rentshare.amounts import read_amount, show_amount, show_share
from rentshare.errors import NoAmount

SIGNS = [chr(code) for code in range(ord(" "), ord("~") + 1) if chr(code) != "%"]
FORM = re.compile(r"(?!-0\.00\Z)-?(0|[1-9][0-9]{0,37})\.[0-9][0-9]")


class ShowAmount(unittest.TestCase):
    def check(self, number, text):
        self.assertEqual(show_amount(number), text)

    def test_examples_of_the_document(self):
        self.check(1250, "12.50")
        self.check(-5, "-0.05")
        self.check(0, "0.00")

    def test_near_nought_and_the_hundreds(self):
        for number, text in [
            (1, "0.01"), (9, "0.09"), (10, "0.10"), (99, "0.99"), (100, "1.00"), (101, "1.01"), (999, "9.99"),
            (1000, "10.00"), (1005, "10.05"),
        ]:
            with self.subTest(number=number):
                self.check(number, text)
                self.check(-number, "-" + text)

    def test_next_to_the_bounds(self):
        self.check(10 ** 46 - 1, "9" * 44 + ".99")
        self.check(-(10 ** 46) + 1, "-" + "9" * 44 + ".99")
        self.check(10 ** 46 - 100, "9" * 44 + ".00")
        self.check(-(10 ** 46) + 100, "-" + "9" * 44 + ".00")
        self.check(10 ** 45, "1" + "0" * 43 + ".00")
        self.check(-(10 ** 45), "-1" + "0" * 43 + ".00")


class ReadAmount(unittest.TestCase):
    def refused(self, text):
        with self.assertRaises(NoAmount, msg=repr(text)):
            read_amount(text)

    def test_examples_of_the_document(self):
        self.assertEqual(read_amount("12.50"), 1250)
        self.assertEqual(read_amount("-0.05"), -5)
        self.assertEqual(read_amount("0.00"), 0)

    def test_reads_a_whole_number(self):
        self.assertIs(type(read_amount("0.00")), int)
        self.assertIs(type(read_amount("-12.50")), int)

    def test_reads_back_the_small_ones(self):
        for number in range(-1101, 1102):
            self.assertEqual(read_amount(show_amount(number)), number)

    def test_reads_back_each_length_on_both_sides(self):
        for figures in range(1, 41):
            for near in [-101, -100, -99, -1, 0, 1, 99, 100]:
                number = 10 ** figures + near
                if number < 10 ** 40:
                    self.assertEqual(read_amount(show_amount(number)), number)
                    self.assertEqual(read_amount(show_amount(-number)), -number)

    def test_38_figures_ahead_of_the_point(self):
        self.assertEqual(read_amount("9" * 38 + ".99"), 10 ** 40 - 1)
        self.assertEqual(read_amount("-" + "9" * 38 + ".99"), -(10 ** 40) + 1)
        self.assertEqual(read_amount("1" + "0" * 37 + ".00"), 10 ** 39)
        self.assertEqual(read_amount("-1" + "0" * 37 + ".00"), -(10 ** 39))

    def test_39_figures_ahead_of_the_point_are_refused(self):
        for ahead in ["1" + "0" * 38, "9" * 39, "0" * 39, "0" + "9" * 38]:
            self.refused(ahead + ".00")
            self.refused("-" + ahead + ".00")
        self.refused(show_amount(10 ** 40))
        self.refused(show_amount(-(10 ** 40)))

    def test_leading_noughts_are_refused(self):
        for text in ["00.00", "00.01", "01.00", "012.50", "-00.05", "-01.00", "000.00", "0012.50"]:
            self.refused(text)

    def test_nought_with_a_minus_is_refused(self):
        for text in ["-0.00", "-00.00", "--0.00"]:
            self.refused(text)

    def test_figures_behind_the_point(self):
        for text in ["12.5", "12.505", "12.", "0.0", "0.000", "-1.5", "-1.500", "12.5000", "0.0" + "0" * 38]:
            self.refused(text)

    def test_points(self):
        for text in ["12", "1250", "-5", "0", "12..50", "1.2.50", "12.50.", ".12.50", "1.2.3", ".", "..", ".50", "-.50",
                     "12,50", "12:50"]:
            self.refused(text)

    def test_minus_and_plus(self):
        for text in ["+12.50", "+0.00", "-+1.00", "+-1.00", "--1.00", "1-2.50", "12-.50", "12.-50", "12.5-", "12.50-",
                     "-", "--", "+", "-.", "- 1.00", "12.+5", "12.50+1/3"]:
            self.refused(text)

    def test_blanks(self):
        for text in [" 12.50", "12.50 ", "1 2.50", "12 .50", "12. 50", "12.5 ", "12.5 0", " ", "  ", "- 0.05", " -0.05",
                     "-0.05 ", "12.50\n", "\n12.50", "12.50\t"]:
            self.refused(text)

    def test_letters_and_other_signs(self):
        for text in ["abc", "a.bc", "12.5a", "1a.50", "x12.50", "12.50x", "1e5.00", "0x1.00", "1_0.00", "12.5_", "O.OO",
                     "nan", "inf", "$12.50", "~", "1/2"]:
            self.refused(text)

    def test_figures_of_other_scripts_are_refused(self):
        for text in ["\u0661.00", "1.0\u0662", "\u00b2.00", "\uff11.00"]:
            self.refused(text)

    def test_empty_text(self):
        self.refused("")

    def test_texts_of_1000_signs(self):
        for text in ["1" * 1000, "0" * 1000, "-" * 1000, "." * 1000, " " * 1000, "a" * 1000, "1" * 997 + ".00",
                     "-" + "9" * 996 + ".00", "0" * 996 + "1.00", "1." + "0" * 998, " " * 996 + "1.00",
                     "1.00" + " " * 996, "1.00" * 250]:
            self.assertEqual(len(text), 1000)
            self.refused(text)

    def test_longer_texts(self):
        # Beyond what int takes of a text, so that it must be refused ahead of int.
        for text in ["1" * 6000, "1" * 6000 + ".00", "1." + "0" * 6000]:
            self.refused(text)

    def check_by_form(self, text):
        if FORM.fullmatch(text):
            self.assertEqual(read_amount(text), Fraction(text) * 100)
        else:
            self.refused(text)

    def test_each_sign_at_each_place(self):
        for text in ["0.00", "-0.05", "12.50", "-120.07"]:
            for place in range(len(text) + 1):
                for sign in SIGNS:
                    self.check_by_form(text[:place] + sign + text[place:])
                    self.check_by_form(text[:place] + sign + text[place + 1:])
                self.check_by_form(text[:place] + text[place + 1:])

    def test_all_short_texts_of_some_signs(self):
        for length in range(7):
            for signs in itertools.product("-.015", repeat=length):
                self.check_by_form("".join(signs))


class ShowShare(unittest.TestCase):
    def check(self, number, parts, text):
        self.assertEqual(show_share(number, parts), text)

    def test_examples_of_the_document(self):
        self.check(3751, 3, "12.50+1/3")
        self.check(-1, 2, "-0.01+1/2")

    def test_numbers_that_the_parts_divide(self):
        self.check(3750, 3, "12.50")
        self.check(-3750, 3, "-12.50")
        self.check(0, 7, "0.00")
        self.check(-10, 2, "-0.05")

    def test_below_nought(self):
        self.check(-1, 3, "-0.01+2/3")
        self.check(-2, 3, "-0.01+1/3")
        self.check(-3, 3, "-0.01")
        self.check(-4, 3, "-0.02+2/3")
        self.check(-3751, 3, "-12.51+2/3")
        self.check(-100 * 7 - 1, 7, "-1.01+6/7")

    def test_less_than_a_hundredth(self):
        self.check(1, 2, "0.00+1/2")
        self.check(2, 3, "0.00+2/3")

    def test_rest_and_parts_with_a_common_factor(self):
        self.check(6, 4, "0.01+1/2")
        self.check(-6, 4, "-0.02+1/2")
        self.check(10, 6, "0.01+2/3")
        self.check(1008, 12, "0.84")
        self.check(1016, 12, "0.84+2/3")
        self.check(2500, 10000, "0.00+1/4")

    def test_one_part(self):
        for number in [-1250, -101, -5, 0, 5, 99, 1250]:
            self.check(number, 1, show_amount(number))

    def test_10000_parts(self):
        self.check(1, 10000, "0.00+1/10000")
        self.check(-1, 10000, "-0.01+9999/10000")
        self.check(9999, 10000, "0.00+9999/10000")
        self.check(10000, 10000, "0.01")
        self.check(12505000, 10000, "12.50+1/2")

    def test_next_to_the_bounds(self):
        self.check(10 ** 45 - 1, 1, "9" * 43 + ".99")
        self.check(-(10 ** 45) + 1, 1, "-" + "9" * 43 + ".99")
        self.check(10 ** 45 - 1, 2, "4" + "9" * 42 + ".99+1/2")
        self.check(-(10 ** 45) + 1, 2, "-5" + "0" * 42 + ".00+1/2")
        self.check(10 ** 45 - 1, 10000, "9" * 39 + ".99+9999/10000")
        self.check(-(10 ** 45) + 1, 10000, "-1" + "0" * 39 + ".00+1/10000")
        self.check(10 ** 45 - 1, 3, "3" * 43 + ".33")

    def test_all_small_ones(self):
        for number in range(-250, 251):
            for parts in range(1, 25):
                worth = Fraction(number, parts)
                whole = worth.numerator // worth.denominator
                rest = worth - whole
                text = show_amount(whole)
                if rest != 0:
                    text += "+" + str(rest)
                self.check(number, parts, text)


if __name__ == "__main__":
    unittest.main()
