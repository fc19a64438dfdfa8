"""Point 6: lowest terms, and the order of fractions; point 1 for the lists."""

import itertools
import math
import unittest
from fractions import Fraction

from rentshare.ratios import less, lowest

GREAT = 10 ** 45 + 7


class Lowest(unittest.TestCase):
    def test_ordinary_rows(self):
        self.assertEqual(lowest(6, [4, 8, 10]), (3, [2, 4, 5]))

    def test_rows_in_lowest_terms_stay(self):
        self.assertEqual(lowest(6, [4, 9]), (6, [4, 9]))

    def test_each_row_counts_for_the_divisor(self):
        self.assertEqual(lowest(12, [24, 36, 18]), (2, [4, 6, 3]))
        self.assertEqual(lowest(12, [5, 24, 36]), (12, [5, 24, 36]))
        self.assertEqual(lowest(12, [24, 36, 5]), (12, [24, 36, 5]))

    def test_rows_that_share_a_divisor_that_the_parts_lack(self):
        self.assertEqual(lowest(3, [10, 20]), (3, [10, 20]))

    def test_empty_list(self):
        for parts in [1, 2, 7, 10 ** 41]:
            with self.subTest(parts=parts):
                self.assertEqual(lowest(parts, []), (1, []))

    def test_noughts_alone(self):
        for parts in [1, 5, 10 ** 41]:
            with self.subTest(parts=parts):
                self.assertEqual(lowest(parts, [0]), (1, [0]))
                self.assertEqual(lowest(parts, [0, 0, 0]), (1, [0, 0, 0]))

    def test_a_nought_among_others(self):
        self.assertEqual(lowest(10, [0, 4]), (5, [0, 2]))
        self.assertEqual(lowest(10, [4, 0]), (5, [2, 0]))

    def test_rows_below_nought(self):
        self.assertEqual(lowest(4, [-6]), (2, [-3]))
        self.assertEqual(lowest(4, [-6, 2, 0, -10]), (2, [-3, 1, 0, -5]))
        self.assertEqual(lowest(3, [-3, -9]), (1, [-1, -3]))
        self.assertEqual(lowest(5, [-1]), (5, [-1]))

    def test_one_part(self):
        self.assertEqual(lowest(1, [8, -4, 0]), (1, [8, -4, 0]))

    def test_great_numbers(self):
        self.assertEqual(lowest(6 * GREAT, [4 * GREAT, -10 * GREAT]), (3, [2, -5]))
        self.assertEqual(lowest(2, [2 * GREAT, -4 * GREAT]), (1, [GREAT, -2 * GREAT]))
        self.assertEqual(lowest(GREAT, [GREAT + 1, -GREAT]), (GREAT, [GREAT + 1, -GREAT]))
        self.assertEqual(lowest(10 ** 300, [10 ** 299, 0]), (10, [1, 0]))

    def test_all_small_ones(self):
        for parts in range(1, 13):
            for rows in itertools.product(range(-6, 7), repeat=2):
                with self.subTest(parts=parts, rows=rows):
                    told_parts, told_rows = lowest(parts, list(rows))
                    self.assertGreater(told_parts, 0)
                    self.assertEqual(math.gcd(told_parts, *told_rows), 1)
                    self.assertEqual(
                        [Fraction(row, told_parts) for row in told_rows], [Fraction(row, parts) for row in rows]
                    )

    def test_kinds(self):
        told = lowest(4, [2])
        self.assertIs(type(told), tuple)
        self.assertIs(type(told[0]), int)
        self.assertIs(type(told[1]), list)

    def test_the_list_handed_in_stays_and_another_is_told(self):
        for parts, rows in [(4, [6, -2]), (1, [3, 5]), (5, [1]), (3, []), (2, [0])]:
            with self.subTest(parts=parts, rows=rows):
                kept = list(rows)
                told = lowest(parts, rows)[1]
                self.assertEqual(rows, kept)
                self.assertIsNot(told, rows)
                told.append(99)
                self.assertEqual(rows, kept)

    def test_each_answer_is_another_list(self):
        rows = [1, 2]
        first = lowest(1, rows)
        first[1][0] = 99
        self.assertEqual(lowest(1, rows), (1, [1, 2]))


class Less(unittest.TestCase):
    def check(self, one, other, answer):
        self.assertIs(less(one, other), answer, (one, other))

    def test_ordinary(self):
        self.check((1, 3), (1, 2), True)
        self.check((1, 2), (1, 3), False)
        self.check((2, 1), (3, 1), True)

    def test_same_worth_in_other_parts(self):
        for one, other in [((1, 2), (2, 4)), ((-3, 6), (-1, 2)), ((0, 1), (0, 9)), ((5, 1), (50, 10))]:
            self.check(one, other, False)
            self.check(other, one, False)

    def test_unlike_signs(self):
        self.check((-1, 3), (1, 3), True)
        self.check((1, 3), (-1, 3), False)
        self.check((-1, 100), (0, 1), True)
        self.check((0, 1), (-1, 100), False)
        self.check((0, 5), (1, 100), True)
        self.check((-5, 1), (1, 1000), True)

    def test_both_below_nought(self):
        self.check((-1, 2), (-1, 3), True)
        self.check((-1, 3), (-1, 2), False)

    def test_a_fraction_and_itself(self):
        for one in [(0, 1), (7, 3), (-7, 3), (GREAT, GREAT + 1)]:
            self.check(one, one, False)

    def test_great_numbers(self):
        # Each two differ by far less than a number with a point could hold.
        self.check((GREAT, GREAT + 1), (GREAT + 1, GREAT + 2), True)
        self.check((GREAT + 1, GREAT + 2), (GREAT, GREAT + 1), False)
        self.check((-GREAT, GREAT + 1), (-GREAT - 1, GREAT + 2), False)
        self.check((-GREAT - 1, GREAT + 2), (-GREAT, GREAT + 1), True)
        self.check((GREAT, 3), (GREAT + 1, 3), True)
        self.check((2 * GREAT, 2), (GREAT, 1), False)

    def test_all_small_ones(self):
        fractions = [(number, parts) for number in range(-6, 7) for parts in range(1, 7)]
        for one, other in itertools.product(fractions, repeat=2):
            self.check(one, other, Fraction(*one) < Fraction(*other))


if __name__ == "__main__":
    unittest.main()
