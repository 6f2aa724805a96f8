import math
import unittest
from fractions import Fraction

from beltshares.errors import NoRatio, WorkError
from beltshares.ratios import (
    common, lasting, ratio, ratio_less, ratio_sum, ratio_text, ratio_times,
)

LARGE = 123456789012345678901234567890123456789012345678901234567891
LARGER = 10 ** 60 + 7
THOUSAND_FIGURES = 10 ** 999 + 9

TOPS = list(range(-13, 14)) + [LARGE, -LARGE, 6 * LARGE]
BOTTOMS = list(range(1, 14)) + [LARGE, LARGER]


def told(fraction):
    return (fraction.numerator, fraction.denominator)


def some_ratios():
    fractions = sorted({Fraction(top, bottom) for top in range(-7, 8) for bottom in range(1, 8)})
    return [told(one) for one in fractions] + [(LARGE, LARGER), (-LARGE, LARGER), (1, LARGE)]


class RatioCase(unittest.TestCase):
    def same_ratio(self, answer, wanted):
        self.assertIs(type(answer), tuple)
        self.assertEqual([type(part) for part in answer], [int, int])
        self.assertEqual(answer, wanted)


class Common(unittest.TestCase):
    """[1.1] common"""

    def both_ways(self, one, other, wanted):
        with self.subTest(one=one, other=other):
            self.assertEqual(common(one, other), wanted)
            self.assertEqual(common(other, one), wanted)
            self.assertIs(type(common(one, other)), int)

    def test_two_noughts(self):
        self.both_ways(0, 0, 0)

    def test_one_nought(self):
        for number in (1, 2, 7, 12, LARGE):
            self.both_ways(0, number, number)

    def test_a_number_and_itself(self):
        for number in (1, 2, 9, LARGE):
            self.both_ways(number, number, number)

    def test_a_multiple(self):
        self.both_ways(1, 9, 1)
        self.both_ways(3, 12, 3)
        self.both_ways(LARGE, 35 * LARGE, LARGE)

    def test_no_part_in_common(self):
        self.both_ways(8, 15, 1)
        self.both_ways(13, 21, 1)
        self.both_ways(2 ** 200, 3 ** 120, 1)

    def test_some_part_in_common(self):
        self.both_ways(12, 18, 6)
        self.both_ways(35, 21, 7)
        self.both_ways(48, 180, 12)

    def test_large_numbers(self):
        self.both_ways(LARGE * 2 ** 30, LARGE * 3 ** 20, LARGE)
        self.both_ways(6 * LARGER, 10 * LARGER, 2 * LARGER)
        self.both_ways(4 * THOUSAND_FIGURES, 6, math.gcd(4 * THOUSAND_FIGURES, 6))

    def test_all_small_pairs(self):
        for one in range(61):
            for other in range(61):
                self.assertEqual(common(one, other), math.gcd(one, other), (one, other))


class Ratio(RatioCase):
    """[1.1] ratio"""

    def test_lowest_terms_already(self):
        self.same_ratio(ratio(3, 4), (3, 4))
        self.same_ratio(ratio(7, 1), (7, 1))
        self.same_ratio(ratio(1, 1), (1, 1))

    def test_brought_to_lowest_terms(self):
        self.same_ratio(ratio(6, 8), (3, 4))
        self.same_ratio(ratio(8, 6), (4, 3))
        self.same_ratio(ratio(12, 4), (3, 1))
        self.same_ratio(ratio(5, 5), (1, 1))

    def test_signs(self):
        self.same_ratio(ratio(-6, 8), (-3, 4))
        self.same_ratio(ratio(6, -8), (-3, 4))
        self.same_ratio(ratio(-6, -8), (3, 4))
        self.same_ratio(ratio(-1, 2), (-1, 2))
        self.same_ratio(ratio(1, -2), (-1, 2))
        self.same_ratio(ratio(-1, -2), (1, 2))
        self.same_ratio(ratio(4, -2), (-2, 1))

    def test_a_top_of_nought(self):
        for bottom in (1, 2, 9, -1, -2, -9, LARGE, -LARGE):
            with self.subTest(bottom=bottom):
                self.same_ratio(ratio(0, bottom), (0, 1))

    def test_large_numbers(self):
        self.same_ratio(ratio(6 * LARGE, 4 * LARGE), (3, 2))
        self.same_ratio(ratio(6 * LARGE, -4 * LARGE), (-3, 2))
        self.same_ratio(ratio(LARGER * 2 ** 90, LARGER * 3 ** 50), (2 ** 90, 3 ** 50))
        self.same_ratio(ratio(3 * THOUSAND_FIGURES, -THOUSAND_FIGURES), (-3, 1))

    def test_many(self):
        for top in TOPS:
            for bottom in BOTTOMS:
                self.same_ratio(ratio(top, bottom), told(Fraction(top, bottom)))
                self.same_ratio(ratio(top, -bottom), told(Fraction(top, -bottom)))

    def test_a_bottom_of_nought_is_refused(self):
        for top in (0, 1, -1, 5, LARGE, -LARGE):
            with self.subTest(top=top):
                with self.assertRaises(NoRatio) as caught:
                    ratio(top, 0)
                self.assertIsInstance(caught.exception, WorkError)
                self.same_ratio(ratio(top, 1), (top, 1))
        self.same_ratio(ratio(2, 6), (1, 3))


class RatioSum(RatioCase):
    """[1.2] ratio_sum"""

    def test_ordinary(self):
        self.same_ratio(ratio_sum((1, 2), (1, 3)), (5, 6))
        self.same_ratio(ratio_sum((1, 6), (1, 3)), (1, 2))
        self.same_ratio(ratio_sum((-1, 2), (1, 3)), (-1, 6))

    def test_to_nought(self):
        self.same_ratio(ratio_sum((-3, 7), (3, 7)), (0, 1))
        self.same_ratio(ratio_sum((0, 1), (0, 1)), (0, 1))

    def test_to_a_whole_number(self):
        self.same_ratio(ratio_sum((1, 2), (1, 2)), (1, 1))
        self.same_ratio(ratio_sum((-5, 3), (-4, 3)), (-3, 1))

    def test_nought_changes_nothing(self):
        for one in some_ratios():
            self.same_ratio(ratio_sum(one, (0, 1)), one)
            self.same_ratio(ratio_sum((0, 1), one), one)

    def test_all_pairs(self):
        for one in some_ratios():
            for other in some_ratios():
                self.same_ratio(ratio_sum(one, other), told(Fraction(*one) + Fraction(*other)))


class RatioTimes(RatioCase):
    """[1.2] ratio_times"""

    def test_ordinary(self):
        self.same_ratio(ratio_times((2, 9), 2), (4, 9))
        self.same_ratio(ratio_times((1, 6), 4), (2, 3))
        self.same_ratio(ratio_times((-1, 6), 4), (-2, 3))
        self.same_ratio(ratio_times((1, 6), -4), (-2, 3))

    def test_to_nought(self):
        self.same_ratio(ratio_times((5, 7), 0), (0, 1))
        self.same_ratio(ratio_times((0, 1), 9), (0, 1))

    def test_to_a_whole_number(self):
        self.same_ratio(ratio_times((2, 3), 3), (2, 1))
        self.same_ratio(ratio_times((-2, 3), 6), (-4, 1))

    def test_many(self):
        for one in some_ratios():
            for many in list(range(-9, 10)) + [LARGE, LARGER, -LARGER]:
                self.same_ratio(ratio_times(one, many), told(Fraction(*one) * many))


class RatioLess(unittest.TestCase):
    """[1.2] ratio_less"""

    def test_ordinary(self):
        self.assertIs(ratio_less((1, 3), (1, 2)), True)
        self.assertIs(ratio_less((1, 2), (1, 3)), False)
        self.assertIs(ratio_less((-1, 2), (-1, 3)), True)
        self.assertIs(ratio_less((-1, 3), (-1, 2)), False)
        self.assertIs(ratio_less((-5, 1), (1, 9)), True)
        self.assertIs(ratio_less((0, 1), (1, 9)), True)
        self.assertIs(ratio_less((0, 1), (-1, 9)), False)

    def test_not_less_than_itself(self):
        for one in some_ratios():
            self.assertIs(ratio_less(one, one), False)

    def test_large_and_close(self):
        self.assertIs(ratio_less((LARGE - 1, LARGE), (LARGE, LARGE + 1)), True)
        self.assertIs(ratio_less((LARGE, LARGE + 1), (LARGE - 1, LARGE)), False)

    def test_all_pairs(self):
        for one in some_ratios():
            for other in some_ratios():
                self.assertIs(ratio_less(one, other), Fraction(*one) < Fraction(*other))


class RatioText(unittest.TestCase):
    """[1.2] ratio_text"""

    def test_top_and_bottom(self):
        self.assertEqual(ratio_text((2, 3)), "2/3")
        self.assertEqual(ratio_text((10, 7)), "10/7")
        self.assertEqual(ratio_text((1, 10)), "1/10")

    def test_top_alone(self):
        self.assertEqual(ratio_text((0, 1)), "0")
        self.assertEqual(ratio_text((1, 1)), "1")
        self.assertEqual(ratio_text((12, 1)), "12")

    def test_below_nought(self):
        self.assertEqual(ratio_text((-2, 3)), "-2/3")
        self.assertEqual(ratio_text((-12, 1)), "-12")

    def test_large(self):
        self.assertEqual(
            ratio_text((-LARGE, LARGER)),
            "-123456789012345678901234567890123456789012345678901234567891/1" + "0" * 59 + "7",
        )
        self.assertEqual(ratio_text((THOUSAND_FIGURES, 1)), "1" + "0" * 998 + "9")


class Lasting(unittest.TestCase):
    """[1.2] lasting, and [0.2] of the list handed in"""

    def test_empty(self):
        self.assertEqual(lasting([]), 1)

    def test_one(self):
        for number in (1, 2, 12, LARGE):
            self.assertEqual(lasting([number]), number)

    def test_with_parts_in_common(self):
        self.assertEqual(lasting([4, 6]), 12)
        self.assertEqual(lasting([6, 4]), 12)
        self.assertEqual(lasting([1, 2, 3, 4]), 12)
        self.assertEqual(lasting([4, 4, 4]), 4)
        self.assertEqual(lasting([2, 8, 4]), 8)
        self.assertEqual(lasting([6, 10, 15]), 30)

    def test_without(self):
        self.assertEqual(lasting([3, 4]), 12)
        self.assertEqual(lasting([2, 3, 5, 7]), 210)
        self.assertEqual(lasting([1, 1]), 1)

    def test_large(self):
        self.assertEqual(lasting([4 * LARGE, 6 * LARGE]), 12 * LARGE)
        self.assertEqual(lasting([2 ** 200, 3 ** 120]), 2 ** 200 * 3 ** 120)

    def test_many(self):
        self.assertEqual(lasting(list(range(1, 201))), math.lcm(*range(1, 201)))
        self.assertEqual(lasting([1, 2, 3, 4] * 1000), 12)

    def test_small_triples(self):
        for one in range(1, 13):
            for two in range(1, 13):
                for three in range(1, 13):
                    self.assertEqual(lasting([one, two, three]), math.lcm(one, two, three))

    def test_the_list_stays_as_it_was(self):
        paces = [4, 1, 3, 2, 4]
        self.assertEqual(lasting(paces), 12)
        self.assertEqual(paces, [4, 1, 3, 2, 4])
        paces.append(5)
        self.assertEqual(lasting(paces), 60)
        self.assertEqual(lasting([4, 1, 3, 2, 4]), 12)


if __name__ == "__main__":
    unittest.main()
