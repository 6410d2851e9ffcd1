"""Divisors and fractions: [6], and of [2] to [4] what holds for them."""

import math
import unittest
from fractions import Fraction

from kinds import arguments, is_plain, is_whole
from scissorhall import lowest
from scissorhall.errors import NoNumber, NoPoint
from scissorhall.lowest import divided, divisor, fraction, minus, plus, ranked, shared, times

FORTY = 10 ** 39 + 7
SOME = [fraction(top, bottom) for top in range(-6, 7) for bottom in (1, 2, 3, 4, 6, 10)]
PAIRS = [(one, other) for one in SOME for other in SOME]


def worth(told):
    return Fraction(told[0], told[1])


class FractionCase(unittest.TestCase):
    def assert_fraction(self, told, expected):
        """The told value is a fraction in the one form, worth as much as the expected one."""
        self.assertIs(type(told), tuple)
        self.assertEqual(len(told), 2)
        self.assertTrue(is_whole(told[0]) and is_whole(told[1]), told)
        self.assertEqual(told, (expected.numerator, expected.denominator))


class Interface(unittest.TestCase):
    def test_arguments_and_defaults(self):
        self.assertEqual(arguments(fraction), ["top", ("bottom", 1)])
        for name in ("divisor", "plus", "minus", "times", "divided", "shared", "ranked"):
            self.assertEqual(arguments(getattr(lowest, name)), ["one", "other"], name)


class LowestWay(unittest.TestCase):
    def test_either_sign_and_noughts(self):
        for numbers, expected in (((4, -6), (2, -3)), ((-4, 6), (2, -3)), ((0, -5), (0, 1)), ((0, -2, 4), (0, 1, -2))):
            self.assertEqual(lowest.lowest_way(numbers), expected)


class Divisor(unittest.TestCase):
    def test_ordinary_pairs(self):
        self.assertEqual(divisor(12, 18), 6)
        self.assertEqual(divisor(18, 12), 6)
        self.assertEqual(divisor(5, 7), 1)
        self.assertEqual(divisor(7, 21), 7)
        self.assertEqual(divisor(1, 1), 1)

    def test_either_sign(self):
        for one, other in ((-12, 18), (12, -18), (-12, -18), (-18, 12), (18, -12), (-18, -12)):
            self.assertEqual(divisor(one, other), 6, (one, other))
        self.assertEqual(divisor(-7, -7), 7)

    def test_a_number_and_nought(self):
        for number in (1, 9, -1, -9):
            self.assertEqual(divisor(number, 0), abs(number))
            self.assertEqual(divisor(0, number), abs(number))

    def test_two_noughts(self):
        self.assertEqual(divisor(0, 0), 0)

    def test_forty_figures(self):
        self.assertEqual(len(str(FORTY)), 40)
        self.assertEqual(divisor(FORTY, -FORTY), FORTY)
        self.assertEqual(divisor(6 * 10 ** 39, 4 * 10 ** 39), 2 * 10 ** 39)
        self.assertEqual(divisor(-3 ** 83, 3 ** 40 * 2 ** 60), 3 ** 40)
        self.assertEqual(divisor(FORTY, FORTY + 1), 1)

    def test_a_hundred_and_thirty_figures(self):
        great = 10 ** 129 + 1
        self.assertEqual(divisor(great * 6, great * 10), great * 2)

    def test_every_small_pair(self):
        for one in range(-30, 31):
            for other in range(-30, 31):
                told = divisor(one, other)
                self.assertTrue(is_whole(told))
                self.assertEqual(told, math.gcd(one, other), (one, other))


class MakingFractions(FractionCase):
    def test_lowest_terms(self):
        self.assertEqual(fraction(6, 4), (3, 2))
        self.assertEqual(fraction(3, 2), (3, 2))
        self.assertEqual(fraction(8, 4), (2, 1))

    def test_signs(self):
        self.assertEqual(fraction(-6, 4), (-3, 2))
        self.assertEqual(fraction(6, -4), (-3, 2))
        self.assertEqual(fraction(-6, -4), (3, 2))

    def test_bottom_left_out(self):
        self.assertEqual(fraction(5), (5, 1))
        self.assertEqual(fraction(-5), (-5, 1))
        self.assertEqual(fraction(0), (0, 1))

    def test_top_nought(self):
        for bottom in (1, 7, -1, -7, FORTY):
            self.assertEqual(fraction(0, bottom), (0, 1))

    def test_bottom_nought_is_refused(self):
        for top in (0, 1, -1, FORTY):
            with self.assertRaises(NoNumber) as caught:
                fraction(top, 0)
            self.assertNotIsInstance(caught.exception, NoPoint)

    def test_forty_figures(self):
        self.assertEqual(fraction(6 * FORTY, -4 * FORTY), (-3, 2))
        self.assertEqual(fraction(FORTY, FORTY + 1), (FORTY, FORTY + 1))

    def test_every_small_pair(self):
        for top in range(-20, 21):
            for bottom in range(-20, 21):
                if bottom != 0:
                    self.assert_fraction(fraction(top, bottom), Fraction(top, bottom))


class Reckoning(FractionCase):
    def test_plus(self):
        self.assertEqual(plus((1, 2), (1, 3)), (5, 6))
        self.assertEqual(plus((1, 6), (1, 3)), (1, 2))
        self.assertEqual(plus((1, 2), (-1, 2)), (0, 1))
        self.assertEqual(plus((-3, 4), (1, 4)), (-1, 2))

    def test_minus(self):
        self.assertEqual(minus((1, 2), (1, 3)), (1, 6))
        self.assertEqual(minus((1, 3), (1, 2)), (-1, 6))
        self.assertEqual(minus((5, 6), (1, 3)), (1, 2))
        self.assertEqual(minus((5, 6), (5, 6)), (0, 1))

    def test_times(self):
        self.assertEqual(times((2, 3), (3, 4)), (1, 2))
        self.assertEqual(times((-2, 3), (3, 4)), (-1, 2))
        self.assertEqual(times((-2, 3), (-3, 2)), (1, 1))
        self.assertEqual(times((0, 1), (7, 9)), (0, 1))

    def test_divided(self):
        self.assertEqual(divided((1, 2), (3, 4)), (2, 3))
        self.assertEqual(divided((3, 4), (1, 2)), (3, 2))
        self.assertEqual(divided((0, 1), (5, 7)), (0, 1))

    def test_divided_by_one_below_nought(self):
        self.assertEqual(divided((1, 2), (-3, 4)), (-2, 3))
        self.assertEqual(divided((-1, 2), (-3, 4)), (2, 3))
        self.assertEqual(divided((0, 1), (-3, 4)), (0, 1))

    def test_divided_by_nought_is_refused(self):
        for one in ((1, 2), (-1, 2), (0, 1), (FORTY, 1)):
            self.assertRaises(NoNumber, divided, one, (0, 1))

    def test_every_pair(self):
        for one, other in PAIRS:
            self.assert_fraction(plus(one, other), worth(one) + worth(other))
            self.assert_fraction(minus(one, other), worth(one) - worth(other))
            self.assert_fraction(times(one, other), worth(one) * worth(other))
            if other != (0, 1):
                self.assert_fraction(divided(one, other), worth(one) / worth(other))

    def test_forty_figures(self):
        one, other = (FORTY, 3), (-1, FORTY)
        self.assert_fraction(plus(one, other), worth(one) + worth(other))
        self.assert_fraction(minus(one, other), worth(one) - worth(other))
        self.assert_fraction(times(one, other), Fraction(-1, 3))
        self.assert_fraction(divided(one, other), worth(one) / worth(other))


class Ranked(unittest.TestCase):
    def test_less_as_much_more(self):
        self.assertEqual(ranked((1, 3), (1, 2)), -1)
        self.assertEqual(ranked((1, 2), (1, 2)), 0)
        self.assertEqual(ranked((1, 2), (1, 3)), 1)

    def test_signs(self):
        self.assertEqual(ranked((-1, 2), (-1, 3)), -1)
        self.assertEqual(ranked((-1, 3), (-1, 2)), 1)
        self.assertEqual(ranked((-1, 2), (1, 3)), -1)
        self.assertEqual(ranked((1, 3), (-1, 2)), 1)
        self.assertEqual(ranked((-1, 2), (-1, 2)), 0)
        self.assertEqual(ranked((0, 1), (-1, 9)), 1)
        self.assertEqual(ranked((0, 1), (1, 9)), -1)
        self.assertEqual(ranked((0, 1), (0, 1)), 0)

    def test_far_apart_and_close_by(self):
        self.assertEqual(ranked((FORTY, 1), (1, FORTY)), 1)
        self.assertEqual(ranked((FORTY, FORTY + 1), (FORTY + 1, FORTY + 2)), -1)

    def test_every_pair(self):
        for one, other in PAIRS:
            told = ranked(one, other)
            expected = (worth(one) > worth(other)) - (worth(one) < worth(other))
            self.assertTrue(is_whole(told))
            self.assertEqual(told, expected, (one, other))


class Shared(FractionCase):
    def test_ordinary_pairs(self):
        self.assertEqual(shared((1, 2), (1, 3)), (1, 6))
        self.assertEqual(shared((4, 1), (6, 1)), (2, 1))
        self.assertEqual(shared((3, 4), (9, 10)), (3, 20))
        self.assertEqual(shared((1, 2), (1, 4)), (1, 4))
        self.assertEqual(shared((5, 7), (5, 7)), (5, 7))

    def test_one_nought(self):
        for other in ((3, 4), (-3, 4), (1, 1), (-5, 1)):
            bare = (abs(other[0]), other[1])
            self.assertEqual(shared((0, 1), other), bare)
            self.assertEqual(shared(other, (0, 1)), bare)

    def test_both_nought(self):
        self.assertEqual(shared((0, 1), (0, 1)), (0, 1))

    def test_below_nought(self):
        self.assertEqual(shared((-1, 2), (1, 3)), (1, 6))
        self.assertEqual(shared((1, 2), (-1, 3)), (1, 6))
        self.assertEqual(shared((-1, 2), (-1, 3)), (1, 6))
        self.assertEqual(shared((-5, 7), (-5, 7)), (5, 7))

    def test_it_is_the_greatest(self):
        # A fraction of which both are whole multiples is the shared one
        # divided by a whole number; no such number but 1 leaves it the greatest.
        for one, other in PAIRS:
            told = shared(one, other)
            self.assert_fraction(told, worth(told))
            if told == (0, 1):
                self.assertEqual((one, other), ((0, 1), (0, 1)))
                continue
            self.assertGreater(told[0], 0)
            first, second = worth(one) / worth(told), worth(other) / worth(told)
            self.assertEqual((first.denominator, second.denominator), (1, 1))
            self.assertEqual(math.gcd(first.numerator, second.numerator), 1)

    def test_forty_figures(self):
        self.assertEqual(shared((6 * FORTY, 1), (4 * FORTY, 1)), (2 * FORTY, 1))
        self.assertEqual(shared((1, FORTY), (-1, FORTY)), (1, FORTY))


class WhatHoldsThroughout(unittest.TestCase):
    def answers(self):
        one, other = (-3, 4), (5, 6)
        told = [divisor(12, 18), fraction(6, -4), ranked(one, other)]
        return told + [reckon(one, other) for reckon in (plus, minus, times, divided, shared)]

    def test_answers_are_made_of_plain_values(self):
        for told in self.answers():
            self.assertTrue(is_plain(told), told)

    def test_answers_hang_on_nothing_else(self):
        self.assertEqual(self.answers(), self.answers())

    def test_tuples_are_compared_by_place_and_fractions_ranked_by_worth(self):
        half, third = fraction(1, 2), fraction(1, 3)
        self.assertLess(half, third)
        self.assertEqual(ranked(half, third), 1)
        self.assertEqual(sorted([fraction(2), third, half]), [(1, 2), (1, 3), (2, 1)])


if __name__ == "__main__":
    unittest.main()
