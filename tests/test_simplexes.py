"""Simplexes: [9], and of [2] to [4] what holds for them."""

import itertools
import unittest

from kinds import arguments, is_plain, is_simplex, made, spot
from scissorhall.errors import Flat, HallError
from scissorhall.simplexes import simplex

THIRTEEN = 10 ** 12 + 39
LONG = 10 ** 128 + 3
FLAT_ROWS = (
    (spot(0, 0), spot(1, 0), spot(0, 1)),
    (spot(0, 0), spot(1, 0), spot(0, -1)),
    (spot("1/2", "1/2"), spot("4/3", "2/3"), spot("1/5", "7/5")),
    (spot("-1/2", 3), spot(5, "-7/6"), spot(-1, -1)),
    (spot(THIRTEEN, -THIRTEEN), spot(f"1/{THIRTEEN}", 1), spot(f"{THIRTEEN}/7", f"-5/{THIRTEEN + 2}")),
    (spot(0, LONG), spot(1, LONG), spot(f"1/{LONG}", f"1/{LONG}")),
)
SPACE_ROWS = (
    (spot(0, 0, 0), spot(1, 0, 0), spot(0, 1, 0), spot(0, 0, 1)),
    (spot(0, 0, 0), spot(1, 0, 0), spot(0, 1, 0), spot(0, 0, -1)),
    (spot("1/2", "1/2", "1/2"), spot("4/3", "2/3", "1/3"), spot("1/5", "7/5", "2/5"), spot("1/2", "3/4", "9/4")),
    (spot("-1/2", 3, 0), spot(5, "-7/6", 1), spot(-1, -1, -1), spot(0, 0, "5/9")),
    (
        spot(THIRTEEN, -THIRTEEN, 0),
        spot(f"1/{THIRTEEN}", 1, 1),
        spot(f"{THIRTEEN}/7", f"-5/{THIRTEEN + 2}", 3),
        spot(1, 2, f"{THIRTEEN}/2"),
    ),
    (spot(0, LONG, 1), spot(1, LONG, 0), spot(f"1/{LONG}", f"1/{LONG}", 0), spot(0, 0, f"-{LONG}/2")),
)


class Interface(unittest.TestCase):
    def test_arguments(self):
        self.assertEqual(arguments(simplex), ["points"])


class OneForm(unittest.TestCase):
    def assert_in_each_order(self, corners):
        expected = made(corners)
        for order in itertools.permutations(corners):
            for handed in (list(order), tuple(order)):
                told = simplex(handed)
                self.assertEqual(told, expected)
                self.assertTrue(is_simplex(told), told)
                self.assertTrue(is_plain(told), told)
                self.assertEqual(sorted(told), sorted(corners))

    def test_three_flat_points(self):
        for corners in FLAT_ROWS:
            self.assert_in_each_order(corners)

    def test_four_points_in_space(self):
        for corners in SPACE_ROWS:
            self.assert_in_each_order(corners)

    def test_plain_examples(self):
        self.assertEqual(simplex([(0, 1, 1), (1, 0, 1), (0, 0, 1)]), ((0, 0, 1), (1, 0, 1), (0, 1, 1)))
        self.assertEqual(simplex([(0, -1, 1), (1, 0, 1), (0, 0, 1)]), ((0, -1, 1), (1, 0, 1), (0, 0, 1)))
        four = ((0, 0, 0, 1), (0, 0, 1, 1), (1, 0, 0, 1), (0, 1, 0, 1))
        self.assertEqual(simplex(sorted(four)), four)

    def test_the_least_is_that_of_tuples_not_of_measures(self):
        # 1/3 is worth less than 1/2, but (1, 0, 2) stands ahead of (1, 0, 3).
        self.assertEqual(simplex([(1, 0, 3), (1, 0, 2), (2, 1, 1)]), ((1, 0, 2), (2, 1, 1), (1, 0, 3)))
        self.assertEqual(
            simplex([(1, 0, 0, 3), (1, 0, 0, 2), (2, 1, 0, 1), (2, 0, 1, 1)]),
            made([(1, 0, 0, 3), (1, 0, 0, 2), (2, 1, 0, 1), (2, 0, 1, 1)]),
        )

    def test_in_space_the_least_of_the_others_comes_second(self):
        for corners in SPACE_ROWS:
            self.assertEqual(simplex(corners)[:2], tuple(sorted(corners)[:2]))

    def test_a_simplex_makes_itself(self):
        for corners in FLAT_ROWS + SPACE_ROWS:
            told = simplex(corners)
            self.assertEqual(simplex(told), told)


class NoSimplex(unittest.TestCase):
    def assert_flat(self, corners):
        for order in itertools.permutations(corners):
            for handed in (list(order), order):
                with self.assertRaises(HallError) as caught:
                    simplex(handed)
                self.assertIs(type(caught.exception), Flat)

    def test_corners_on_one_line(self):
        self.assert_flat((spot(0, 0), spot(1, 1), spot(2, 2)))
        self.assert_flat((spot("1/2", "1/2"), spot("1/3", "1/3"), spot("-1/5", "-1/5")))
        self.assert_flat((spot("1/2", 0), spot("1/2", 5), spot("1/2", -3)))
        self.assert_flat((spot(0, 1, 2), spot(1, 2, 3), spot(2, 3, 4), spot(5, 5, 7)))

    def test_corners_in_one_plane(self):
        self.assert_flat((spot(0, 0, 1), spot(1, 0, 1), spot(0, 1, 1), spot("3/2", "5/2", 1)))
        self.assert_flat((spot(1, 0, 0), spot(0, 1, 0), spot(0, 0, 1), spot("1/3", "1/3", "1/3")))

    def test_one_corner_twice(self):
        self.assert_flat((spot(0, 0), spot(1, 0), spot(0, 0)))
        self.assert_flat((spot("1/2", 1), spot("1/2", 1), spot("1/2", 1)))
        self.assert_flat((spot(0, 0, 0), spot(1, 0, 0), spot(0, 1, 0), spot(1, 0, 0)))

    def test_great_numbers_on_one_line(self):
        self.assert_flat((spot(0, 1), spot(LONG, LONG + 1), spot(f"1/{LONG}", f"{LONG + 1}/{LONG}")))

    def test_just_beside_the_line_or_plane_is_a_simplex(self):
        near = spot("1/2", f"1/{LONG}")
        self.assertTrue(is_simplex(simplex([spot(0, 0), near, spot(1, 0)])))
        near = spot("1/3", "1/3", f"{LONG}/{3 * LONG - 1}")
        self.assertTrue(is_simplex(simplex([spot(1, 0, 0), spot(0, 1, 0), spot(0, 0, 1), near])))


class WhatIsHandedIn(unittest.TestCase):
    def test_it_stays(self):
        for corners in FLAT_ROWS + SPACE_ROWS:
            for order in (list(corners), list(reversed(corners))):
                handed = list(order)
                simplex(handed)
                self.assertEqual(handed, order)

    def test_it_stays_where_it_is_refused(self):
        handed = [spot(2, 2), spot(0, 0), spot(1, 1)]
        self.assertRaises(Flat, simplex, handed)
        self.assertEqual(handed, [spot(2, 2), spot(0, 0), spot(1, 1)])

    def test_altering_the_list_alters_no_answer(self):
        handed = [spot(0, 1), spot(1, 0), spot(0, 0)]
        told = simplex(handed)
        handed[0] = spot(5, 5)
        self.assertEqual(told, ((0, 0, 1), (1, 0, 1), (0, 1, 1)))
        self.assertEqual(simplex([spot(0, 1), spot(1, 0), spot(0, 0)]), told)


if __name__ == "__main__":
    unittest.main()
