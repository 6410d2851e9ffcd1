"""Sums by directions: [23] to [27], of [5] what speaks of cuts, and of [2] to [4] what holds for them."""

import itertools
import unittest
from fractions import Fraction

from kinds import CORNER, CUBE_OF_FIVE, CUBE_OF_SIX, FLAT_HEAP, HALF_SQUARE, OTHER_HALF, SPACE_HEAP, SQUARE
from kinds import SQUARE_OTHERWISE, added_sums, arguments, bar, box_of, is_plain, made, moved_by, prism_over, pushed_by
from kinds import spot, sums_of_edges, sums_of_sides, sums_of_walls
from scissorhall.cuts import cut
from scissorhall.sums import edge_sums, side_sums, wall_sums

LONG = 10 ** 12 + 39
TINY = Fraction(1, LONG)
GREAT = made((spot(LONG, 1), spot(-LONG, TINY), spot(3, LONG - 2)))
GREAT_BODY = made((spot(LONG, 1, 0), spot(-LONG, TINY, 5), spot(3, LONG - 2, 7), spot(0, "1/7", LONG)))
FLAT_HEAPS = (
    (HALF_SQUARE,),
    (OTHER_HALF,),
    SQUARE,
    SQUARE + SQUARE_OTHERWISE,
    FLAT_HEAP,
    FLAT_HEAP[:1] * 3,
    (GREAT,),
    (GREAT, HALF_SQUARE, GREAT) + FLAT_HEAP,
)
SPACE_HEAPS = (
    (CORNER,),
    CUBE_OF_SIX,
    CUBE_OF_FIVE[:3],
    SPACE_HEAP,
    SPACE_HEAP[:1] * 3,
    (GREAT_BODY,),
    (GREAT_BODY, CORNER, GREAT_BODY) + SPACE_HEAP,
)
FLAT_LINES = ((1, 0, 0), (3, -1, -1), (1, 2, -1), (-2, 5, 3), (LONG, 3, -7))
SPACE_LINES = ((1, 0, 0, 0), (3, -1, 1, -1), (1, 2, -1, 0), (-2, 5, 3, -1), (LONG, 3, -7, 1))
FLAT_ARROWS = (spot(1, 0), spot("-7/3", "1/2"), spot(LONG, -TINY))
SPACE_ARROWS = (spot(1, 0, 0), spot("-7/3", "1/2", 4), spot(LONG, -TINY, "2/9"))


def with_other_sign(sums):
    return tuple((key, (-share[0], share[1])) for key, share in sums)


class Interface(unittest.TestCase):
    def test_arguments(self):
        for function in (side_sums, wall_sums, edge_sums):
            self.assertEqual(arguments(function), ["heap"])

    def test_no_simplex(self):
        for function in (side_sums, wall_sums, edge_sums):
            self.assertEqual(function(()), ())
            self.assertEqual(function([]), ())


class Told(unittest.TestCase):
    def test_half_a_square(self):
        self.assertEqual(side_sums((HALF_SQUARE,)), (((0, 1), (-1, 1)), ((1, -1), (-1, 1)), ((1, 0), (1, 1))))
        self.assertEqual(side_sums((OTHER_HALF,)), (((0, 1), (1, 1)), ((1, -1), (1, 1)), ((1, 0), (-1, 1))))
        self.assertEqual(side_sums(SQUARE), ())

    def test_sides_that_are_many_times_their_way(self):
        piece = made((spot(0, 0), spot(4, 2), spot("1/2", 1)))
        expected = (((1, 2), (-1, 2)), ((2, 1), (2, 1)), ((7, 2), (-1, 2)))
        self.assertEqual(side_sums([piece]), expected)
        twice = tuple((way, (2 * top // bottom, 1)) for way, (top, bottom) in expected)
        self.assertEqual(side_sums([piece, piece]), twice)

    def test_the_corner_of_a_cube(self):
        half = (1, 2)
        walls = (((0, 0, 1), (-1, 2)), ((0, 1, 0), (-1, 2)), ((1, 0, 0), (-1, 2)), ((1, 1, 1), half))
        self.assertEqual(wall_sums((CORNER,)), walls)
        edges = (
            (((0, 0, 1), (0, 1, 0)), (1, 1)),
            (((0, 0, 1), (1, -1, 0)), (1, 1)),
            (((0, 0, 1), (1, 0, 0)), (-1, 1)),
            (((0, 1, 0), (0, 0, 1)), (-1, 1)),
            (((0, 1, 0), (1, 0, -1)), (-1, 1)),
            (((0, 1, 0), (1, 0, 0)), (1, 1)),
            (((1, 0, 0), (0, 0, 1)), (1, 1)),
            (((1, 0, 0), (0, 1, -1)), (1, 1)),
            (((1, 0, 0), (0, 1, 0)), (-1, 1)),
            (((1, 1, 1), (0, 1, -1)), (-1, 1)),
            (((1, 1, 1), (1, -1, 0)), (-1, 1)),
            (((1, 1, 1), (1, 0, -1)), (1, 1)),
        )
        self.assertEqual(edge_sums((CORNER,)), edges)

    def test_flat_heaps_by_the_words(self):
        for heap in FLAT_HEAPS:
            for kind in (list, tuple):
                self.assertEqual(side_sums(kind(heap)), sums_of_sides(heap))
            self.assertTrue(is_plain(side_sums(heap)))

    def test_heaps_in_space_by_the_words(self):
        for heap in SPACE_HEAPS:
            for kind in (list, tuple):
                self.assertEqual(wall_sums(kind(heap)), sums_of_walls(heap))
                self.assertEqual(edge_sums(kind(heap)), sums_of_edges(heap))
            self.assertTrue(is_plain((wall_sums(heap), edge_sums(heap))))

    def test_the_order_in_the_heap_is_nothing(self):
        for order in itertools.permutations(FLAT_HEAP):
            self.assertEqual(side_sums(order), side_sums(FLAT_HEAP))
        for order in itertools.permutations(SPACE_HEAP):
            self.assertEqual(wall_sums(order), wall_sums(SPACE_HEAP))
            self.assertEqual(edge_sums(order), edge_sums(SPACE_HEAP))


class Together(unittest.TestCase):
    def assert_nothing_over(self, sums, count):
        for k in range(count):
            self.assertEqual(sum(Fraction(*share) * way[k] for way, share in sums), 0)

    def test_flat_sums_come_to_nought(self):
        for heap in FLAT_HEAPS:
            self.assert_nothing_over(side_sums(heap), 2)

    def test_wall_sums_come_to_nought(self):
        for heap in SPACE_HEAPS:
            self.assert_nothing_over(wall_sums(heap), 3)

    def test_two_heaps_put_together(self):
        for one, other in itertools.product(FLAT_HEAPS, repeat=2):
            self.assertEqual(side_sums(one + other), added_sums(side_sums(one), side_sums(other)))
        for one, other in itertools.product(SPACE_HEAPS[:4], SPACE_HEAPS):
            for function in (wall_sums, edge_sums):
                self.assertEqual(function(one + other), added_sums(function(one), function(other)))

    def test_a_heap_cut_by_a_blade(self):
        for heap, line in itertools.product(FLAT_HEAPS, FLAT_LINES):
            front, rest = cut(heap, line)
            self.assertEqual(added_sums(side_sums(front), side_sums(rest)), side_sums(heap))
        for heap, line in itertools.product(SPACE_HEAPS, SPACE_LINES):
            front, rest = cut(heap, line)
            for function in (wall_sums, edge_sums):
                self.assertEqual(added_sums(function(front), function(rest)), function(heap))

    def test_heaps_that_are_the_same(self):
        two = bar(0, 0, 1, 2) + bar(1, 0, 2, 2)
        self.assertEqual(side_sums(SQUARE), side_sums(SQUARE_OTHERWISE))
        wide = made((spot(0, 0), spot(2, 0), spot(0, 2)))
        quarters = moved_by((HALF_SQUARE,), 1, spot(1, 0)) + moved_by((HALF_SQUARE,), 1, spot(0, 1)) + SQUARE
        self.assertEqual(side_sums((wide,)), side_sums(quarters))
        self.assertEqual(side_sums((wide,) + two), side_sums(quarters + bar(0, 0, 2, 2)))
        for function in (wall_sums, edge_sums):
            self.assertEqual(function(CUBE_OF_FIVE), function(CUBE_OF_SIX))
            self.assertEqual(function(CUBE_OF_FIVE + (CORNER,)), function((CORNER,) + CUBE_OF_SIX))


class Moved(unittest.TestCase):
    def test_a_push_changes_none(self):
        for heap, arrow in itertools.product(FLAT_HEAPS, FLAT_ARROWS):
            self.assertEqual(side_sums(pushed_by(heap, arrow)), side_sums(heap))
        for heap, arrow in itertools.product(SPACE_HEAPS, SPACE_ARROWS):
            self.assertEqual(wall_sums(pushed_by(heap, arrow)), wall_sums(heap))
            self.assertEqual(edge_sums(pushed_by(heap, arrow)), edge_sums(heap))

    def test_a_turn_turns_signs_but_those_of_edges(self):
        for heap, arrow in itertools.product(FLAT_HEAPS, FLAT_ARROWS):
            self.assertEqual(side_sums(moved_by(heap, -1, arrow)), with_other_sign(side_sums(heap)))
        for heap, arrow in itertools.product(SPACE_HEAPS, SPACE_ARROWS):
            self.assertEqual(wall_sums(moved_by(heap, -1, arrow)), with_other_sign(wall_sums(heap)))
            self.assertEqual(edge_sums(moved_by(heap, -1, arrow)), edge_sums(heap))

    def test_one_of_several_pushed(self):
        for k in range(len(FLAT_HEAP)):
            heap = FLAT_HEAP[:k] + pushed_by(FLAT_HEAP[k:k + 1], spot(5, "1/3")) + FLAT_HEAP[k + 1:]
            self.assertEqual(side_sums(heap), side_sums(FLAT_HEAP))


class BoxesAndPrisms(unittest.TestCase):
    def test_boxes_have_no_sums(self):
        self.assertEqual(side_sums(box_of((1, 2), (3, 1), ("1/2", -4))), ())
        for arrows in (((1, 0, 0), (0, 1, 0), (0, 0, 1)), ((2, 1, "1/3"), (0, -1, 5), (LONG, 1, 0))):
            self.assertEqual(wall_sums(box_of((1, 2, 3), *arrows)), ())
            self.assertEqual(edge_sums(box_of((1, 2, 3), *arrows)), ())

    def test_prisms_have_no_edge_sums(self):
        for arrow in ((0, 0, 1), (1, "-1/2", 3), (LONG, 0, "-1/7")):
            for heap in ((HALF_SQUARE,), FLAT_HEAP):
                self.assertEqual(edge_sums(prism_over(heap, arrow)), ())
                self.assertNotEqual(wall_sums(prism_over(heap, arrow)), ())

    def test_half_a_box_and_the_rest(self):
        # Both halves of a box, the one turned, have the same walls with other signs.
        prism = prism_over((HALF_SQUARE,), (0, 0, 1))
        self.assertEqual(wall_sums(prism), (((0, 1, 0), (-1, 1)), ((1, 0, 0), (-1, 1)), ((1, 1, 0), (1, 1))))


class WhatHoldsThroughout(unittest.TestCase):
    def test_what_is_handed_in_stays(self):
        for function, heap in ((side_sums, FLAT_HEAP), (wall_sums, SPACE_HEAP), (edge_sums, SPACE_HEAP)):
            handed = list(heap)
            told = function(handed)
            self.assertEqual(handed, list(heap))
            handed.pop()
            self.assertEqual(function(heap), told)
            self.assertEqual(function(list(heap)), told)


if __name__ == "__main__":
    unittest.main()
