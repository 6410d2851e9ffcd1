"""Blades and cuts: [13] and [14], and of [2] to [4] what holds for them."""

import itertools
import unittest
from fractions import Fraction
from math import gcd

from kinds import CORNER, CUBE_OF_FIVE, CUBE_OF_SIX, FLAT_HEAP, HALF_SQUARE, SPACE_HEAP, SQUARE, amidst, arguments
from kinds import content, is_plain, is_simplex, is_whole, made, pushed_by, spot, spread, stand, worths
from scissorhall.cuts import blade, cut, height
from scissorhall.errors import HallError, NoBlade
from scissorhall.heaps import same, size

THIRTEEN = 10 ** 12 + 39
LONG = 10 ** 39 + 7
TINY = Fraction(1, LONG)
FLAT_SPOTS = [spot(Fraction(x, 7), Fraction(y, 11)) for x in range(-26, 27, 5) for y in range(-30, 31, 6)]
SPACE_SPOTS = [
    spot(Fraction(x, 7), Fraction(y, 11), Fraction(z, 13))
    for x in range(-25, 26, 7)
    for y in range(-27, 28, 8)
    for z in range(-14, 29, 9)
]
FLAT_PAIRS = list(itertools.permutations([spot(0, 0), spot(1, "1/2"), spot("-2/3", 3), spot("5/7", "-1/5")], 2)) + [
    (spot(THIRTEEN, 1), spot(f"1/{THIRTEEN}", -THIRTEEN)),
    (spot(0, TINY), spot(1, -TINY)),
]
SPACE_TRIPLES = list(
    itertools.permutations([spot(0, 0, 0), spot(1, "1/2", 0), spot("-2/3", 3, 1), spot("5/7", "-1/5", "2/9")], 3)
) + [
    (spot(THIRTEEN, 1, 0), spot(f"1/{THIRTEEN}", -THIRTEEN, 1), spot(0, 0, f"5/{THIRTEEN}")),
    (spot(0, 0, TINY), spot(1, 0, 0), spot(0, 1, -TINY)),
]


def spots_in(heap):
    """Some points within the first simplexes, and one outside of all."""
    rows = ((1, 2, 4, 9), (7, 3, 1, 2), (1, 1, 30, 2))
    return [amidst(piece, row[:len(piece)]) for piece in heap[:6] for row in rows] + [spot(*[20] * (len(heap[0]) - 1))]


def sign_of(worth):
    return (worth > 0) - (worth < 0)


def height_by_fractions(line, p):
    return sum(Fraction(one) * x for one, x in zip(line, worths(p) + [Fraction(1)])) * p[-1]


class Interface(unittest.TestCase):
    def test_arguments(self):
        self.assertEqual(arguments(blade), ["points"])
        self.assertEqual(arguments(height), ["blade", "p"])
        self.assertEqual(arguments(cut), ["heap", "blade"])


class Blade(unittest.TestCase):
    def assert_blade(self, points, spots):
        told = blade(list(points))
        self.assertEqual(blade(tuple(points)), told)
        self.assertIs(type(told), tuple)
        self.assertEqual(len(told), len(points) + 1)
        self.assertTrue(all(is_whole(number) for number in told))
        self.assertEqual(gcd(*told), 1)
        self.assertTrue(any(told[:-1]))
        for p in points:
            self.assertEqual(height_by_fractions(told, p), 0)
        for p in spots:
            self.assertEqual(sign_of(height_by_fractions(told, p)), sign_of(spread(tuple(points) + (p,))), p)
        return told

    def test_plain_examples(self):
        self.assertEqual(blade([spot(0, 0), spot(1, 0)]), (0, 1, 0))
        self.assertEqual(blade([spot(1, 0), spot(0, 0)]), (0, -1, 0))
        self.assertEqual(blade([spot(0, 0), spot(0, 7)]), (-1, 0, 0))
        self.assertEqual(blade((spot("1/2", 0), spot(0, "1/3"))), (-2, -3, 1))
        self.assertEqual(blade([spot(0, 0, 0), spot(1, 0, 0), spot(0, 1, 0)]), (0, 0, 1, 0))
        self.assertEqual(blade((spot(0, 0, "1/2"), spot(0, 1, "1/2"), spot(1, 0, "1/2"))), (0, 0, -2, 1))
        self.assertEqual(blade([spot(1, 0, 0), spot(0, 1, 0), spot(0, 0, 1)]), (1, 1, 1, -1))

    def test_of_two_flat_points(self):
        for points in FLAT_PAIRS:
            self.assert_blade(points, FLAT_SPOTS[::3] + [p for pair in FLAT_PAIRS for p in pair])

    def test_of_three_points_in_space(self):
        for points in SPACE_TRIPLES:
            self.assert_blade(points, SPACE_SPOTS[::5] + [p for triple in SPACE_TRIPLES[-2:] for p in triple])

    def test_two_exchanged_turn_all_signs(self):
        for points in FLAT_PAIRS + SPACE_TRIPLES:
            told = blade(points)
            for i, k in itertools.combinations(range(len(points)), 2):
                others = list(points)
                others[i], others[k] = others[k], others[i]
                self.assertEqual(blade(others), tuple(-number for number in told))

    def test_gone_on_in_a_ring(self):
        for points in SPACE_TRIPLES:
            self.assertEqual(blade(points[1:] + points[:1]), blade(points))

    def test_other_points_of_one_blade(self):
        p, q = spot("1/3", 2), spot(5, "-1/7")
        self.assertEqual(blade([amidst([p, q], [9, 2]), amidst([p, q], [1, 4])]), blade([p, q]))
        p, q, r = SPACE_TRIPLES[-3]
        self.assertEqual(blade([p, amidst([p, q]), amidst([p, r], [5, 1])]), blade([p, q, r]))

    def assert_no_blade(self, points):
        for order in itertools.permutations(points):
            for handed in (order, list(order)):
                with self.assertRaises(HallError) as caught:
                    blade(handed)
                self.assertIs(type(caught.exception), NoBlade)

    def test_points_alike(self):
        self.assert_no_blade([spot("1/2", 3), spot("1/2", 3)])
        self.assert_no_blade([spot(0, 0), spot(0, 0)])
        self.assert_no_blade([spot(1, 2, 3), spot(1, 2, 3), spot(0, 0, "1/2")])
        self.assert_no_blade([spot(0, 0, 1)] * 3)

    def test_three_on_one_line(self):
        self.assert_no_blade([spot(0, 0, 0), spot(1, 1, 1), spot("-1/3", "-1/3", "-1/3")])
        self.assert_no_blade([spot(1, 0, LONG), spot(2, 0, LONG), spot(TINY, 0, LONG)])

    def test_just_beside_one_line(self):
        self.assert_blade((spot(0, 0, 0), spot(1, 1, 1), spot(2, 2, 2 + TINY)), SPACE_SPOTS[::7])


class Height(unittest.TestCase):
    def test_plain_examples(self):
        self.assertEqual(height((-2, -3, 1), spot(0, 0)), 1)
        self.assertEqual(height((-2, -3, 1), spot("1/2", "1/3")), -6)
        self.assertEqual(height((-2, -3, 1), spot("1/5", "1/5")), 0)
        self.assertEqual(height((1, 1, 1, -1), spot("1/2", "1/3", 0)), -1)
        self.assertEqual(height((2, 0, -3, 4), spot(1, 5, "1/7")), 39)

    def test_the_very_number(self):
        for points in FLAT_PAIRS + SPACE_TRIPLES:
            line = blade(points)
            for p in (FLAT_SPOTS if len(line) == 3 else SPACE_SPOTS)[::4] + list(points):
                told = height(line, p)
                self.assertTrue(is_whole(told))
                self.assertEqual(told, height_by_fractions(line, p))

    def test_in_front_behind_and_on(self):
        wall = (spot(1, 0, 0), spot(0, 1, 0), spot(0, 0, 1))
        for points, arrow in (((spot(0, 0), spot(2, 1)), (0, 1)), (wall, (1, 1, 1))):
            line = blade(points)
            on = amidst(points)
            self.assertEqual(height(line, on), 0)
            for step, expected in ((TINY, 1), (5, 1), (-TINY, -1), (-5, -1)):
                near = spot(*[x + step * a for x, a in zip(worths(on), arrow)])
                self.assertEqual(sign_of(height(line, near)), expected)


class CutCase(unittest.TestCase):
    def assert_cut(self, heap, line):
        """All that [14] tells of a cut; the answer, for what a test asks further."""
        told = cut(list(heap), line)
        self.assertIs(type(told), tuple)
        self.assertEqual(len(told), 2)
        self.assertTrue(is_plain(told))
        self.assertEqual([type(part) for part in told], [tuple, tuple])
        front, behind = told
        for part, way in ((front, 1), (behind, -1)):
            self.assertTrue(all(is_simplex(piece) for piece in part), part)
            for piece in part:
                self.assertTrue(all(way * height(line, p) >= 0 for p in piece), piece)
        self.assertIs(same(front + behind, heap), True)
        whole = sum((content(piece) for piece in heap), Fraction(0))
        self.assertEqual(sum((content(piece) for piece in front + behind), Fraction(0)), whole)
        self.assertEqual(size(front + behind), size(heap))
        for p in spots_in(heap):
            self.assert_counts(heap, line, told, p)
        self.assert_again(line, told)
        self.assertEqual([same(part, other) for part, other in zip(cut(tuple(heap), line), told)], [True, True])
        return told

    def assert_counts(self, heap, line, told, p):
        counts = [[stand(piece, p) for piece in part] for part in (heap,) + told]
        if height(line, p) == 0 or any(0 in row for row in counts):
            return
        whole = counts[0].count(1)
        expected = [whole, 0] if height(line, p) > 0 else [0, whole]
        self.assertEqual([row.count(1) for row in counts[1:]], expected, p)

    def assert_again(self, line, told):
        front, behind = told
        again = cut(front, line)
        self.assertIs(same(again[0], front), True)
        self.assertEqual(again[1], ())
        again = cut(behind, line)
        self.assertEqual(again[0], ())
        self.assertIs(same(again[1], behind), True)


class FlatCuts(CutCase):
    def test_the_empty_heap(self):
        self.assertEqual(cut((), (1, 2, 3)), ((), ()))
        self.assertEqual(cut([], (1, 0, 2, 3)), ((), ()))

    def test_wholly_on_one_side(self):
        for heap in ([HALF_SQUARE], SQUARE):
            front, behind = self.assert_cut(heap, (1, 0, 5))
            self.assertEqual(behind, ())
            self.assertIs(same(front, heap), True)
            front, behind = self.assert_cut(heap, (1, 0, -5))
            self.assertEqual(front, ())
            self.assertIs(same(behind, heap), True)

    def test_through_inner_points(self):
        for points in FLAT_PAIRS:
            self.assert_cut(FLAT_HEAP, blade(points))
            self.assert_cut(SQUARE, blade(points))

    def test_one_corner_cut_off(self):
        front, behind = self.assert_cut([HALF_SQUARE], (-2, -2, 1))
        self.assertEqual(front, (made((spot(0, 0), spot("1/2", 0), spot(0, "1/2"))),))
        self.assertEqual(size(behind), (3, 8))

    def test_through_a_corner(self):
        front, behind = self.assert_cut([HALF_SQUARE], (-1, 1, 0))
        self.assertEqual(front, (made((spot(0, 0), spot(0, 1), spot("1/2", "1/2"))),))
        self.assertEqual(behind, (made((spot(0, 0), spot(1, 0), spot("1/2", "1/2"))),))
        for piece in FLAT_HEAP:
            for k in range(3):
                inner = amidst([piece[k - 1], piece[k - 2]], [2, 5])
                front, behind = self.assert_cut([piece], blade([piece[k], inner]))
                self.assertEqual(len(front) * len(behind), 1)

    def test_touching_a_corner(self):
        for line in ((1, 1, 0), (1, 2, 0)):
            self.assertEqual(cut([HALF_SQUARE], line), ((HALF_SQUARE,), ()))
            self.assertEqual(cut([HALF_SQUARE], tuple(-number for number in line)), ((), (HALF_SQUARE,)))

    def test_along_an_edge(self):
        for piece in FLAT_HEAP:
            for k in range(3):
                line = blade([piece[k - 1], piece[k]])
                self.assertEqual(cut([piece], line), ((piece,), ()))
                self.assertEqual(cut([piece], tuple(-number for number in line)), ((), (piece,)))

    def test_along_the_diagonal_of_a_square(self):
        front, behind = self.assert_cut(SQUARE, (-1, -1, 1))
        self.assertEqual((front, behind), (SQUARE[:1], SQUARE[1:]))

    def test_layers(self):
        front, behind = self.assert_cut(SQUARE + SQUARE + (HALF_SQUARE,), (2, 0, -1))
        self.assertEqual(size(front), (9, 8))
        self.assertEqual(size(behind), (11, 8))

    def test_turned_blade_exchanges_the_sides(self):
        for points in FLAT_PAIRS:
            line = blade(points)
            front, behind = cut(FLAT_HEAP, line)
            other_front, other_behind = cut(FLAT_HEAP, tuple(-number for number in line))
            self.assertIs(same(front, other_behind), True)
            self.assertIs(same(behind, other_front), True)

    def test_cut_again_and_again(self):
        heaps = [FLAT_HEAP]
        for points in FLAT_PAIRS[:5]:
            heaps = [part for heap in heaps if heap for part in self.assert_cut(heap, blade(points))]
        self.assertIs(same(sum(heaps, ()), FLAT_HEAP), True)

    def test_a_little_cut_off(self):
        front, behind = self.assert_cut([HALF_SQUARE], blade([spot(0, TINY), spot(1, TINY)]))
        self.assertIs(same(behind, ()), False)
        self.assertEqual(sum(content(piece) for piece in behind), Fraction(1, 2) - (1 - TINY) ** 2 / 2)


class SpaceCuts(CutCase):
    def test_wholly_on_one_side(self):
        for heap in ([CORNER], CUBE_OF_SIX):
            front, behind = self.assert_cut(heap, (1, 1, 0, 5))
            self.assertEqual(behind, ())
            self.assertIs(same(front, heap), True)
            front, behind = self.assert_cut(heap, (1, 1, 0, -5))
            self.assertEqual(front, ())
            self.assertIs(same(behind, heap), True)

    def test_through_inner_points(self):
        for points in SPACE_TRIPLES[::5] + SPACE_TRIPLES[-2:]:
            self.assert_cut(SPACE_HEAP, blade(points))
        for points in SPACE_TRIPLES[1::9]:
            self.assert_cut(CUBE_OF_FIVE, blade(points))

    def test_one_corner_and_two(self):
        front, behind = self.assert_cut([CORNER], (-2, -2, -2, 1))
        self.assertEqual(front, (made((spot(0, 0, 0), spot("1/2", 0, 0), spot(0, "1/2", 0), spot(0, 0, "1/2"))),))
        self.assertEqual(size(behind), (7, 48))
        front, behind = self.assert_cut([CORNER], (4, 4, 0, -1))
        self.assertEqual(content(CORNER), sum(content(piece) for piece in front + behind))

    def test_through_corners(self):
        # Through one corner, and through an edge and a point of the edge across from it.
        for piece in SPACE_HEAP + (CORNER,):
            for k in range(4):
                a, b, c = [piece[i] for i in range(4) if i != k]
                self.assert_cut([piece], blade([piece[k], amidst([a, b]), amidst([b, c], [1, 2])]))
                front, behind = self.assert_cut([piece], blade([piece[k], a, amidst([b, c], [3, 1])]))
                self.assertEqual((len(front), len(behind)), (1, 1))

    def test_along_a_wall(self):
        for piece in SPACE_HEAP:
            for corners in itertools.combinations(piece, 3):
                line = blade(corners)
                across = [p for p in piece if p not in corners][0]
                if height(line, across) < 0:
                    line = tuple(-number for number in line)
                self.assertEqual(cut([piece], line), ((piece,), ()))
                self.assertEqual(cut([piece], tuple(-number for number in line)), ((), (piece,)))

    def test_touching_a_corner_or_an_edge(self):
        for line in ((1, 1, 1, 0), (1, 1, 0, 0)):
            self.assertEqual(cut([CORNER], line), ((CORNER,), ()))
            self.assertEqual(cut([CORNER], tuple(-number for number in line)), ((), (CORNER,)))

    def test_along_the_walls_within_a_cube(self):
        front, behind = self.assert_cut(CUBE_OF_SIX, (1, -1, 0, 0))
        self.assertEqual((len(front), len(behind)), (3, 3))
        self.assertEqual(sorted(front + behind), sorted(CUBE_OF_SIX))

    def test_layers(self):
        heap = CUBE_OF_SIX + CUBE_OF_FIVE + (CORNER,)
        front, behind = self.assert_cut(heap, (0, 0, 2, -1))
        self.assertEqual(size(front), (49, 48))
        self.assertEqual(size(behind), (55, 48))

    def test_cut_again_and_again(self):
        heaps = [CUBE_OF_FIVE]
        for points in SPACE_TRIPLES[::9]:
            heaps = [part for heap in heaps if heap for part in self.assert_cut(heap, blade(points))]
        self.assertIs(same(sum(heaps, ()), CUBE_OF_SIX), True)


class WhatHoldsThroughout(unittest.TestCase):
    def test_what_is_handed_in_stays(self):
        for points in (FLAT_PAIRS[0], SPACE_TRIPLES[0]):
            handed = list(points)
            line = blade(handed)
            self.assertEqual(handed, list(points))
            heap = FLAT_HEAP if len(points) == 2 else SPACE_HEAP
            handed = list(heap)
            cut(handed, line)
            self.assertEqual(handed, list(heap))

    def test_altering_the_lists_alters_no_answer(self):
        handed = list(SQUARE)
        told = cut(handed, (2, 0, -1))
        kept = repr(told)
        handed.pop()
        handed.append(pushed_by([HALF_SQUARE], spot(3, 3))[0])
        self.assertEqual(repr(told), kept)
        self.assertIs(same(sum(told, ()), SQUARE), True)
        points = list(FLAT_PAIRS[0])
        line = blade(points)
        points.reverse()
        self.assertEqual(blade(FLAT_PAIRS[0]), line)


if __name__ == "__main__":
    unittest.main()
