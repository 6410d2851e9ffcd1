"""Points and sides: [7] and [8], and of [2] to [4] what holds for them."""

import itertools
import unittest
from fractions import Fraction

from kinds import arguments, is_plain, is_whole, point_of, worths
from scissorhall.errors import NoNumber, NoPoint
from scissorhall.points import added, amid, lessened, measures, point, side, turned

FORTY = 10 ** 39 + 7
FLAT = [point(numbers, bottom) for numbers in itertools.product((-3, 0, 4), repeat=2) for bottom in (1, 2, 6)]
SPACE = [point(numbers, bottom) for numbers in itertools.product((-3, 0, 4), repeat=3) for bottom in (1, 6)]
PAIRS = [(p, q) for kind in (FLAT, SPACE) for p in kind for q in kind]


def swapped(points, i, k):
    others = list(points)
    others[i], others[k] = others[k], others[i]
    return others


class PointCase(unittest.TestCase):
    def assert_point(self, told, fractions):
        """The told value is a point in the one form, with these measures."""
        self.assertIs(type(told), tuple)
        self.assertTrue(all(is_whole(number) for number in told), told)
        self.assertEqual(told, point_of(fractions))


class Interface(unittest.TestCase):
    def test_arguments_and_defaults(self):
        self.assertEqual(arguments(point), ["numbers", ("bottom", 1)])
        self.assertEqual(arguments(measures), ["p"])
        self.assertEqual(arguments(turned), ["p"])
        for function in (added, lessened, amid):
            self.assertEqual(arguments(function), ["p", "q"], function)
        self.assertEqual(arguments(side), ["points"])


class MakingPoints(PointCase):
    def test_two_numbers(self):
        self.assertEqual(point([1, 2], 3), (1, 2, 3))
        self.assertEqual(point((1, 2), 3), (1, 2, 3))

    def test_three_numbers(self):
        self.assertEqual(point([1, -2, 5], 3), (1, -2, 5, 3))
        self.assertEqual(point((1, -2, 5), 3), (1, -2, 5, 3))

    def test_bottom_left_out(self):
        self.assertEqual(point([4, 6]), (4, 6, 1))
        self.assertEqual(point((4, 6, 8)), (4, 6, 8, 1))

    def test_bottom_below_nought(self):
        self.assertEqual(point([1, 2], -3), (-1, -2, 3))
        self.assertEqual(point([-1, 0, 2], -3), (1, 0, -2, 3))
        self.assertEqual(point([2, 4], -1), (-2, -4, 1))

    def test_bottom_nought_is_refused(self):
        for numbers in ([1, 2], (1, 2), [0, 0], [1, 2, 3], (0, 0, 0)):
            with self.assertRaises(NoPoint) as caught:
                point(numbers, 0)
            self.assertNotIsInstance(caught.exception, NoNumber)

    def test_lowest_terms_over_all_numbers_together(self):
        self.assertEqual(point([2, 4], 6), (1, 2, 3))
        self.assertEqual(point([2, 3], 6), (2, 3, 6))
        self.assertEqual(point([3, 6], 2), (3, 6, 2))
        self.assertEqual(point([6, 10, 15], 30), (6, 10, 15, 30))
        self.assertEqual(point([6, 10, 14], 30), (3, 5, 7, 15))
        self.assertEqual(point([4, 6, 9], 2), (4, 6, 9, 2))

    def test_the_origin(self):
        self.assertEqual(point([0, 0], 7), (0, 0, 1))
        self.assertEqual(point([0, 0, 0], -7), (0, 0, 0, 1))

    def test_noughts_among_the_numbers(self):
        self.assertEqual(point([0, 4], 6), (0, 2, 3))
        self.assertEqual(point([4, 0], 6), (2, 0, 3))
        self.assertEqual(point([0, 0, 9], 6), (0, 0, 3, 2))

    def test_every_small_one(self):
        for count in (2, 3):
            for numbers in itertools.product((-6, -1, 0, 4, 9), repeat=count):
                for bottom in (-12, -1, 1, 2, 9):
                    self.assert_point(point(numbers, bottom), [Fraction(one, bottom) for one in numbers])

    def test_forty_figures(self):
        self.assertEqual(point([2 * FORTY, -4 * FORTY], 6 * FORTY), (1, -2, 3))
        self.assertEqual(point([FORTY, 1, 0], FORTY), (FORTY, 1, 0, FORTY))

    def test_the_list_stays_as_it_was(self):
        numbers = [2, 4, -6]
        point(numbers, -8)
        self.assertEqual(numbers, [2, 4, -6])
        self.assertRaises(NoPoint, point, numbers, 0)
        self.assertEqual(numbers, [2, 4, -6])

    def test_altering_the_list_alters_nothing_told(self):
        numbers = [2, 4]
        told = point(numbers, 6)
        numbers[0] = 5
        numbers.append(7)
        self.assertEqual(told, (1, 2, 3))
        self.assertEqual(measures(told), ((1, 3), (2, 3)))
        self.assertEqual(point([2, 4], 6), (1, 2, 3))
        self.assertEqual(point(numbers, 6), (5, 4, 7, 6))


class Measures(unittest.TestCase):
    def test_flat(self):
        self.assertEqual(measures((2, 3, 6)), ((1, 3), (1, 2)))
        self.assertEqual(measures((-2, 4, 1)), ((-2, 1), (4, 1)))
        self.assertEqual(measures((0, 0, 1)), ((0, 1), (0, 1)))

    def test_in_space(self):
        self.assertEqual(measures((6, -10, 15, 30)), ((1, 5), (-1, 3), (1, 2)))
        self.assertEqual(measures((0, 4, 1, 2)), ((0, 1), (2, 1), (1, 2)))

    def test_every_point(self):
        for p in FLAT + SPACE:
            expected = tuple((one.numerator, one.denominator) for one in worths(p))
            self.assertEqual(measures(p), expected)


class MeasureByMeasure(PointCase):
    def test_added(self):
        self.assertEqual(added((1, 2, 1), (3, -5, 1)), (4, -3, 1))
        self.assertEqual(added((1, 0, 2), (1, 1, 3)), (5, 2, 6))
        self.assertEqual(added((1, 1, 6), (1, 1, 3)), (1, 1, 2))
        self.assertEqual(added((1, 2, 3, 2), (1, 0, -1, 2)), (1, 1, 1, 1))
        self.assertEqual(added((1, 0, 0, 2), (0, 1, -1, 3)), (3, 2, -2, 6))

    def test_lessened(self):
        self.assertEqual(lessened((1, 2, 1), (3, -5, 1)), (-2, 7, 1))
        self.assertEqual(lessened((1, 0, 2), (1, 1, 3)), (1, -2, 6))
        self.assertEqual(lessened((1, 1, 2), (1, 1, 2)), (0, 0, 1))
        self.assertEqual(lessened((1, 2, 3, 2), (1, 0, -1, 2)), (0, 1, 2, 1))
        self.assertEqual(lessened((1, 0, 0, 2), (0, 1, -1, 3)), (3, -2, 2, 6))

    def test_turned(self):
        self.assertEqual(turned((1, -2, 3)), (-1, 2, 3))
        self.assertEqual(turned((0, 0, 1)), (0, 0, 1))
        self.assertEqual(turned((1, -2, 0, 5)), (-1, 2, 0, 5))

    def test_amid(self):
        self.assertEqual(amid((0, 0, 1), (1, 2, 1)), (1, 2, 2))
        self.assertEqual(amid((0, 0, 1), (2, 4, 1)), (1, 2, 1))
        self.assertEqual(amid((1, 0, 2), (1, 1, 3)), (5, 2, 12))
        self.assertEqual(amid((1, 0, 0, 2), (0, 1, -1, 3)), (3, 2, -2, 12))
        self.assertEqual(amid((3, 1, 4, 2), (3, 1, 4, 2)), (3, 1, 4, 2))
        self.assertEqual(amid((1, -2, 3), (-1, 2, 3)), (0, 0, 1))

    def test_every_pair(self):
        for p, q in PAIRS:
            both = list(zip(worths(p), worths(q)))
            self.assert_point(added(p, q), [one + other for one, other in both])
            self.assert_point(lessened(p, q), [one - other for one, other in both])
            self.assert_point(amid(p, q), [(one + other) / 2 for one, other in both])

    def test_every_point_turned(self):
        for p in FLAT + SPACE:
            self.assert_point(turned(p), [-one for one in worths(p)])

    def test_forty_figures(self):
        p, q = (FORTY, 1, 0, 2), (1, -FORTY, 5, FORTY)
        both = list(zip(worths(p), worths(q)))
        self.assert_point(added(p, q), [one + other for one, other in both])
        self.assert_point(lessened(p, q), [one - other for one, other in both])
        self.assert_point(amid(p, q), [(one + other) / 2 for one, other in both])


LEFT = ((0, 0, 1), (1, 0, 1), (0, 1, 1))
CORNERS = ((0, 0, 0, 1), (1, 0, 0, 1), (0, 1, 0, 1), (0, 0, 1, 1))
# Unlike bottoms, and the first point away from the origin.
LEFT_OF_FRACTIONS = ((1, 1, 2), (4, 2, 3), (1, 7, 5))
CORNERS_OF_FRACTIONS = ((1, 1, 1, 2), (4, 2, 1, 3), (1, 7, 2, 5), (2, 3, 9, 4))


class Side(unittest.TestCase):
    def assert_side(self, points, expected):
        for handed in (list(points), tuple(points)):
            told = side(handed)
            self.assertTrue(is_whole(told))
            self.assertEqual(told, expected, points)

    def test_three_that_turn_left(self):
        self.assert_side(LEFT, 1)
        self.assert_side(LEFT_OF_FRACTIONS, 1)

    def test_three_that_turn_right(self):
        self.assert_side((LEFT[0], LEFT[2], LEFT[1]), -1)
        self.assert_side(((0, 0, 1), (0, 5, 1), (1, 0, 7)), -1)

    def test_four_in_space(self):
        self.assert_side(CORNERS, 1)
        self.assert_side(CORNERS_OF_FRACTIONS, 1)
        self.assert_side(CORNERS[:3] + ((0, 0, -1, 1),), -1)

    def test_each_exchange_of_two_turns_the_sign(self):
        for points in (LEFT, LEFT_OF_FRACTIONS, CORNERS, CORNERS_OF_FRACTIONS):
            for i, k in itertools.combinations(range(len(points)), 2):
                self.assert_side(swapped(points, i, k), -1)

    def test_going_on_in_a_ring(self):
        self.assert_side(LEFT[1:] + LEFT[:1], 1)
        self.assert_side(CORNERS[1:] + CORNERS[:1], -1)

    def test_on_one_line(self):
        self.assert_side(((0, 0, 1), (1, 1, 1), (2, 2, 1)), 0)
        self.assert_side(((1, 1, 2), (1, 1, 3), (-1, -1, 5)), 0)
        self.assert_side(((1, 0, 2), (1, 5, 2), (1, -3, 2)), 0)

    def test_one_point_twice(self):
        self.assert_side((LEFT[0], LEFT[1], LEFT[0]), 0)
        self.assert_side((LEFT[1], LEFT[1], LEFT[2]), 0)
        self.assert_side((CORNERS[0], CORNERS[1], CORNERS[2], CORNERS[1]), 0)

    def test_in_one_plane(self):
        self.assert_side(((0, 0, 1, 1), (1, 0, 1, 1), (0, 1, 1, 1), (3, 5, 2, 2)), 0)
        self.assert_side(((1, 0, 0, 1), (0, 1, 0, 1), (0, 0, 1, 1), (1, 1, 1, 3)), 0)
        self.assert_side(((0, 0, 0, 1), (1, 1, 1, 1), (1, 1, 1, 2), (5, 0, 7, 3)), 0)

    def test_close_by_the_plane(self):
        # The plane x + y + z = 1, and points a little before and behind it.
        wall = ((1, 0, 0, 1), (0, 1, 0, 1), (0, 0, 1, 1))
        self.assert_side(wall + ((FORTY, FORTY, FORTY, 3 * FORTY - 1),), 1)
        self.assert_side(wall + ((FORTY, FORTY, FORTY, 3 * FORTY + 1),), -1)

    def test_every_three(self):
        points = FLAT[::3] + FLAT[1::4]
        for p, q, r in itertools.product(points, repeat=3):
            (a, b), (c, d), (e, f) = worths(p), worths(q), worths(r)
            worth = (c - a) * (f - b) - (d - b) * (e - a)
            self.assertEqual(side((p, q, r)), (worth > 0) - (worth < 0), (p, q, r))

    def test_every_four(self):
        points = SPACE[::9] + SPACE[1::11]
        for four in itertools.product(points, repeat=4):
            first = worths(four[0])
            u, v, w = [[x - a for x, a in zip(worths(p), first)] for p in four[1:]]
            worth = sum(
                u[i] * (v[(i + 1) % 3] * w[(i + 2) % 3] - v[(i + 2) % 3] * w[(i + 1) % 3]) for i in range(3)
            )
            self.assertEqual(side(four), (worth > 0) - (worth < 0), four)

    def test_what_is_handed_in_stays(self):
        for points in (LEFT_OF_FRACTIONS, CORNERS_OF_FRACTIONS):
            handed = list(points)
            side(handed)
            self.assertEqual(handed, list(points))

    def test_altering_the_list_alters_no_other_answer(self):
        handed = list(LEFT)
        self.assertEqual(side(handed), 1)
        handed.reverse()
        self.assertEqual(side(handed), -1)
        self.assertEqual(side(list(LEFT)), 1)


class WhatHoldsThroughout(unittest.TestCase):
    def answers(self):
        told = [point([2, 4], -6), point((2, 4, 6)), side(LEFT), side(CORNERS)]
        for p, q in (((1, 0, 2), (1, 1, 3)), ((1, 0, 0, 2), (0, 1, -1, 3))):
            told += [measures(p), turned(p), added(p, q), lessened(p, q), amid(p, q)]
        return told

    def test_answers_are_made_of_plain_values(self):
        for told in self.answers():
            self.assertTrue(is_plain(told), told)

    def test_answers_hang_on_nothing_else(self):
        self.assertEqual(self.answers(), self.answers())

    def test_points_are_compared_as_tuples(self):
        # By the first place where they differ, not by their measures.
        self.assertLess(point([1, 0], 2), point([1, 0], 3))
        self.assertEqual(sorted([point([2, 0]), point([1, 9]), point([1, 0], 2)]), [(1, 0, 2), (1, 9, 1), (2, 0, 1)])

    def test_the_beginning_of_a_longer_one_is_less(self):
        self.assertLess(point([1, 2], 1), point([1, 2, 1], 1))


if __name__ == "__main__":
    unittest.main()
