"""Heaps: count_at [10], size [11] and same [12], and of [2] to [4] what holds for them."""

import itertools
import unittest
from fractions import Fraction

from kinds import CORNER, CUBE_OF_FIVE, CUBE_OF_SIX, FLAT_HEAP, HALF_SQUARE, OTHER_HALF, SPACE_HEAP, SQUARE
from kinds import SQUARE_OTHERWISE, amidst, arguments, bar, content, heap_of, is_plain, is_whole, made, pushed_by, spot
from kinds import stand
from scissorhall.errors import HallError, OnSide
from scissorhall.heaps import count_at, same, size

LONG = 10 ** 39 + 7
TINY = Fraction(1, LONG)
FLAT_SPOTS = [spot(Fraction(x, 7), Fraction(y, 11)) for x in range(-30, 31, 4) for y in range(-32, 33, 5)]
SPACE_SPOTS = [
    spot(Fraction(x, 7), Fraction(y, 11), Fraction(z, 13))
    for x in range(-25, 26, 7)
    for y in range(-27, 28, 8)
    for z in range(-14, 29, 9)
]


def parted_at(piece, i, k, p):
    """The two simplexes into which a point p between the corners i and k parts one."""
    return heap_of([piece[:i] + (p,) + piece[i + 1:], piece[:k] + (p,) + piece[k + 1:]])


def parted_everywhere(heap):
    """Each simplex parted at a point of an edge, and then each half at a point of another edge."""
    found = []
    for piece in heap:
        for half in parted_at(piece, 0, 1, amidst([piece[0], piece[1]], [1, 2])):
            found.extend(parted_at(half, 1, 2, amidst([half[1], half[2]], [3, 2])))
    return tuple(found)


class Interface(unittest.TestCase):
    def test_arguments(self):
        self.assertEqual(arguments(size), ["heap"])
        self.assertEqual(arguments(same), ["one", "other"])
        self.assertEqual(arguments(count_at), ["heap", "p"])


class CountAt(unittest.TestCase):
    def assert_count(self, heap, p, expected):
        for handed in (list(heap), tuple(heap)):
            told = count_at(handed, p)
            self.assertTrue(is_whole(told))
            self.assertEqual(told, expected, p)

    def assert_on_side(self, heap, p):
        for handed in (list(heap), tuple(heap)):
            with self.assertRaises(HallError) as caught:
                count_at(handed, p)
            self.assertIs(type(caught.exception), OnSide)

    def test_within_and_outside(self):
        self.assert_count([HALF_SQUARE], spot("1/4", "1/4"), 1)
        self.assert_count([HALF_SQUARE], spot("3/4", "3/4"), 0)
        self.assert_count([HALF_SQUARE], spot(-1, "1/2"), 0)
        self.assert_count([CORNER], spot("1/4", "1/4", "1/4"), 1)
        self.assert_count([CORNER], spot("1/2", "1/2", "1/2"), 0)

    def test_the_empty_heap(self):
        for p in (spot(0, 0), spot("1/2", 3), spot(0, 0, 0)):
            self.assert_count((), p, 0)

    def test_layers(self):
        over = made((spot(0, 0), spot(2, 0), spot(0, 2)))
        far = made((spot(5, 5), spot(6, 5), spot(5, 6)))
        heap = [HALF_SQUARE, over, far]
        self.assert_count(heap, spot("1/4", "1/4"), 2)
        self.assert_count(heap, spot("3/4", "3/4"), 1)
        self.assert_count(heap, spot("21/4", "21/4"), 1)
        self.assert_count(heap, spot(3, 3), 0)
        wide = made((spot(-1, -1, -1), spot(4, -1, -1), spot(-1, 4, -1), spot(-1, -1, 4)))
        self.assert_count([CORNER, wide], spot("1/4", "1/4", "1/4"), 2)
        self.assert_count([CORNER, wide], spot("-1/4", "-1/4", "-1/4"), 1)

    def test_one_that_stands_there_twice(self):
        self.assert_count([HALF_SQUARE, OTHER_HALF, HALF_SQUARE], spot("1/4", "1/4"), 2)
        self.assert_count([HALF_SQUARE, OTHER_HALF, HALF_SQUARE], spot("3/4", "3/4"), 1)
        self.assert_count([CORNER] * 5, spot("1/4", "1/4", "1/5"), 5)

    def test_on_an_edge_or_a_wall(self):
        for p in (spot("1/2", 0), spot(0, "1/3"), spot("1/2", "1/2")):
            self.assert_on_side([HALF_SQUARE], p)
        for p in (spot("1/4", "1/4", 0), spot(0, "1/4", "1/4"), spot("1/3", "1/3", "1/3")):
            self.assert_on_side([CORNER], p)
        for p in (spot("1/2", 0, 0), spot(0, "1/2", "1/2")):
            self.assert_on_side([CORNER], p)

    def test_on_each_border_of_each_kind(self):
        for heap in (FLAT_HEAP, SPACE_HEAP):
            for piece in heap:
                for count in range(1, len(piece)):
                    for corners in itertools.combinations(piece, count):
                        self.assert_on_side(heap, amidst(corners, range(1, count + 1)))

    def test_on_the_line_of_an_edge_but_beside_it(self):
        for p in (spot(2, 0), spot(0, -1), spot(2, -1), spot("-1/2", "3/2")):
            self.assert_count([HALF_SQUARE], p, 0)
        for p in (spot(2, 0, 0), spot("3/4", "3/4", 0), spot(0, 0, -1), spot(1, 1, -1)):
            self.assert_count([CORNER], p, 0)

    def test_a_border_anywhere_in_the_heap(self):
        # A border refuses the point, whether the simplexes ahead and behind have it or not.
        wide = made((spot(-1, -1), spot(3, -1), spot(-1, 3)))
        far = made((spot(5, 5), spot(6, 5), spot(5, 6)))
        for heap in itertools.permutations([HALF_SQUARE, wide, far]):
            self.assert_on_side(heap, spot("1/2", 0))
            self.assert_count(heap, spot("1/2", "-1/2"), 1)

    def test_just_beside_a_border(self):
        self.assert_count([HALF_SQUARE], spot("1/2", TINY), 1)
        self.assert_count([HALF_SQUARE], spot("1/2", -TINY), 0)
        self.assert_count([HALF_SQUARE], spot(Fraction(1, 2), Fraction(1, 2) - TINY), 1)
        self.assert_count([HALF_SQUARE], spot(Fraction(1, 2), Fraction(1, 2) + TINY), 0)
        self.assert_count([CORNER], spot("1/3", "1/3", Fraction(1, 3) - TINY), 1)
        self.assert_count([CORNER], spot("1/3", "1/3", Fraction(1, 3) + TINY), 0)
        self.assert_count([CORNER], spot(TINY, TINY, TINY), 1)
        self.assert_count([CORNER], spot(TINY, TINY, -TINY), 0)

    def test_many_points(self):
        for heap, spots in ((FLAT_HEAP, FLAT_SPOTS), (SPACE_HEAP, SPACE_SPOTS)):
            seen = set()
            for p in spots:
                stands = [stand(piece, p) for piece in heap]
                self.assertNotIn(0, stands, p)
                seen.add(stands.count(1))
                self.assert_count(heap, p, stands.count(1))
            self.assertLessEqual({0, 1, 2}, seen)


class Size(unittest.TestCase):
    def assert_size(self, heap, expected):
        worth = Fraction(expected)
        for handed in (list(heap), tuple(heap)):
            told = size(handed)
            self.assertTrue(is_plain(told))
            self.assertEqual(told, (worth.numerator, worth.denominator))

    def test_the_empty_heap(self):
        self.assert_size((), 0)

    def test_one_simplex(self):
        self.assert_size([HALF_SQUARE], "1/2")
        self.assert_size([made((spot("1/2", 0), spot("5/2", 0), spot("1/2", "1/3")))], "1/3")
        self.assert_size([CORNER], "1/6")
        self.assert_size([made((spot(0, 0, 1), spot("1/2", 0, 1), spot(0, "2/3", 1), spot(0, 0, 5)))], "2/9")

    def test_lowest_terms(self):
        self.assert_size([made((spot(0, 0), spot(2, 0), spot(0, 3)))], 3)
        self.assert_size([made((spot(0, 0, 0), spot(2, 0, 0), spot(0, 3, 0), spot(0, 0, 5)))], 5)
        self.assert_size(SQUARE, 1)
        self.assert_size(CUBE_OF_FIVE, 1)

    def test_several(self):
        for heap in (FLAT_HEAP, SPACE_HEAP, CUBE_OF_SIX):
            for count in range(len(heap) + 1):
                self.assert_size(heap[:count], sum(content(piece) for piece in heap[:count]))

    def test_one_that_stands_there_twice(self):
        self.assert_size([HALF_SQUARE, HALF_SQUARE], 1)
        self.assert_size([HALF_SQUARE, OTHER_HALF, HALF_SQUARE], "3/2")
        self.assert_size([CORNER] * 7, "7/6")

    def test_corners_of_every_bottom(self):
        for first, second, third in itertools.product((1, 2, 3, 10), repeat=3):
            corners = (spot(Fraction(1, first), 1), spot(5, Fraction(1, second)), spot(2, Fraction(20, third)))
            self.assert_size([made(corners)], content(corners))
            higher = [p[:-1] + (p[-1] * number, p[-1]) for p, number in zip(corners, (0, 1, -1))]
            corners = tuple(higher) + (spot(0, 0, Fraction(-1, third)),)
            self.assert_size([made(corners)], content(corners))

    def test_many_of_unlike_bottoms(self):
        for count in (124, 125):
            heap = [
                made((spot(0, 0), spot(Fraction(1, 10 ** 12 + 7 * k), 0), spot(0, Fraction(k + 1, 10 ** 13 - k))))
                for k in range(count)
            ]
            self.assert_size(heap, sum(content(piece) for piece in heap))

    def test_forty_figures(self):
        piece = made((spot(0, 0, 0), spot(LONG, 0, 1), spot(0, TINY, 0), spot(1, 0, LONG)))
        self.assert_size([piece], content(piece))


class Same(unittest.TestCase):
    def assert_same(self, one, other, expected):
        for first, second in ((one, other), (other, one)):
            for kind, other_kind in itertools.product((list, tuple), repeat=2):
                self.assertIs(same(kind(first), other_kind(second)), expected)

    def test_in_another_order(self):
        for heap in (SQUARE, FLAT_HEAP, SPACE_HEAP, CUBE_OF_SIX):
            self.assert_same(heap, heap, True)
            self.assert_same(heap, tuple(reversed(heap)), True)
            self.assert_same(heap, heap[1:] + heap[:1], True)

    def test_parted_at_a_point_of_an_edge(self):
        for piece in FLAT_HEAP + SPACE_HEAP:
            for i, k in itertools.combinations(range(len(piece)), 2):
                halves = parted_at(piece, i, k, amidst([piece[i], piece[k]], [3, 4]))
                self.assert_same([piece], halves, True)
                self.assert_same([piece], halves[:1], False)
                self.assert_same([piece], halves + halves[1:], False)

    def test_parted_everywhere(self):
        for heap in (FLAT_HEAP, SPACE_HEAP, CUBE_OF_FIVE):
            parted = parted_everywhere(heap)
            self.assertEqual(len(parted), 4 * len(heap))
            self.assert_same(heap, parted, True)
            self.assert_same(parted, tuple(reversed(parted)), True)
            self.assert_same(heap, parted[1:], False)
            self.assert_same(heap, parted[:2] + parted[3:], False)

    def test_parted_at_a_point_within(self):
        for piece in FLAT_HEAP + SPACE_HEAP:
            p = amidst(piece, range(1, len(piece) + 1))
            self.assert_same([piece], heap_of([piece[:k] + (p,) + piece[k + 1:] for k in range(len(piece))]), True)

    def test_a_parallelogram_by_either_diagonal(self):
        self.assert_same(SQUARE, SQUARE_OTHERWISE, True)
        corner, u, v = (Fraction(1, 3), Fraction(-2, 5)), (Fraction(7, 2), 1), (Fraction(-1, 4), Fraction(5, 3))
        ends = [spot(corner[0] + a * u[0] + b * v[0], corner[1] + a * u[1] + b * v[1]) for a in (0, 1) for b in (0, 1)]
        one = heap_of([(ends[0], ends[1], ends[3]), (ends[0], ends[2], ends[3])])
        other = heap_of([(ends[1], ends[0], ends[2]), (ends[1], ends[3], ends[2])])
        self.assert_same(one, other, True)
        self.assert_same(one, other[:1] + one[1:], False)

    def test_a_box_of_six_and_of_five(self):
        self.assert_same(CUBE_OF_SIX, CUBE_OF_FIVE, True)
        for k in range(6):
            self.assert_same(CUBE_OF_SIX[:k] + CUBE_OF_SIX[k + 1:], CUBE_OF_FIVE, False)
        for k in range(5):
            self.assert_same(CUBE_OF_SIX, CUBE_OF_FIVE + CUBE_OF_FIVE[k:k + 1], False)

    def test_one_left_out_or_twice(self):
        for heap in (SQUARE, FLAT_HEAP, SPACE_HEAP, CUBE_OF_SIX):
            for k in range(len(heap)):
                self.assert_same(heap, heap[:k] + heap[k + 1:], False)
                self.assert_same(heap, heap + heap[k:k + 1], False)

    def test_pushed_a_little(self):
        for heap in (SQUARE, FLAT_HEAP, SPACE_HEAP, CUBE_OF_FIVE):
            for k in range(len(heap)):
                for place in range(len(heap[0][0]) - 1):
                    arrow = [0] * (len(heap[0][0]) - 1)
                    arrow[place] = TINY
                    pushed = pushed_by(heap[k:k + 1], spot(*arrow))
                    self.assert_same(heap, heap[:k] + pushed + heap[k + 1:], False)

    def test_elsewhere_with_the_same_size(self):
        self.assert_same(SQUARE, pushed_by(SQUARE, spot(1, 0)), False)
        self.assert_same(SQUARE, [HALF_SQUARE, HALF_SQUARE], False)
        self.assert_same(SQUARE, [made((spot(0, 0), spot(2, 0), spot(0, 1)))], False)
        self.assert_same(CUBE_OF_SIX, pushed_by(CUBE_OF_FIVE, spot(0, 0, "1/2")), False)
        self.assert_same([CORNER], [CUBE_OF_FIVE[1]], False)

    def test_turned_over_in_one_plane(self):
        # Both lie at one wall, the one above and the other one below it.
        below = made((spot(0, 0, 0), spot(1, 0, 0), spot(0, 1, 0), spot(0, 0, -1)))
        self.assert_same([CORNER], [below], False)
        self.assert_same([CORNER, below], [below, CORNER], True)
        self.assert_same([HALF_SQUARE], [OTHER_HALF], False)

    def test_on_one_line_in_unlike_planes(self):
        # Two simplexes about one edge, exchanged for two others about the same edge.
        ends = [spot(0, 0, 0), spot(0, 0, 1)]
        about = [spot(1, 0, 0), spot(0, 1, 0), spot(-1, 0, 0), spot(0, -1, 0)]
        quarters = [made(ends + [about[k - 1], about[k]]) for k in range(4)]
        halves = [made([ends[1], about[k - 1], about[k], about[(k + 1) % 4]]) for k in range(4)]
        self.assert_same(quarters, [halves[0], halves[2]], True)
        self.assert_same(quarters, [halves[1], halves[3]], True)
        self.assert_same([halves[0], halves[2]], [halves[1], halves[3]], True)
        self.assert_same([quarters[0], quarters[2]], [quarters[1], quarters[3]], False)

    def test_layers_over_one_another(self):
        wide = heap_of([(spot(0, 0), spot(2, 0), spot(2, 2)), (spot(0, 0), spot(2, 2), spot(0, 2))])
        low = pushed_by(SQUARE, spot("1/2", "1/2"))
        self.assert_same(SQUARE + SQUARE, SQUARE_OTHERWISE + SQUARE_OTHERWISE, True)
        self.assert_same(SQUARE + wide, wide + SQUARE_OTHERWISE, True)
        self.assert_same(SQUARE + wide, wide + low, False)
        self.assert_same(SQUARE + SQUARE, SQUARE, False)
        self.assert_same(CUBE_OF_SIX + CUBE_OF_FIVE, CUBE_OF_FIVE + CUBE_OF_FIVE, True)
        self.assert_same(CUBE_OF_SIX + CUBE_OF_FIVE, CUBE_OF_FIVE, False)

    def test_layers_exchanged_where_they_cross(self):
        # Two bars laid crosswise: the crossing counts twice, however the bars are parted.
        across, along, middle = bar(0, 1, 3, 2), bar(1, 0, 2, 3), bar(1, 1, 2, 2)
        arms = bar(0, 1, 1, 2) + bar(2, 1, 3, 2) + bar(1, 0, 2, 1) + bar(1, 2, 2, 3)
        self.assert_same(across + along, arms + middle + middle, True)
        self.assert_same(across + along, arms + middle, False)
        self.assert_same(across + along, arms + middle * 3, False)

    def test_empty_heaps(self):
        self.assert_same((), (), True)
        self.assert_same((), [HALF_SQUARE], False)
        self.assert_same((), [CORNER], False)
        self.assert_same((), CUBE_OF_SIX, False)

    def test_hundred_and_twenty_five(self):
        row = tuple(pushed_by(SQUARE[:1], spot(k, 0))[0] for k in range(125))
        self.assert_same(row, tuple(reversed(row)), True)
        self.assert_same(row, row[1:] + row[1:2], False)

    def test_great_numbers(self):
        far = pushed_by(SQUARE, spot(LONG, TINY))
        self.assert_same(far, pushed_by(SQUARE_OTHERWISE, spot(LONG, TINY)), True)
        self.assert_same(far, pushed_by(SQUARE_OTHERWISE, spot(LONG, 2 * TINY)), False)


class WhatHoldsThroughout(unittest.TestCase):
    def answers(self, heap, other):
        outside = spot(*[10] * (len(heap[0]) - 1))
        return [size(heap), same(heap, other), count_at(heap, outside)]

    def test_what_is_handed_in_stays(self):
        for heap in (FLAT_HEAP, SPACE_HEAP):
            one, other = list(heap), list(reversed(heap))
            self.answers(one, other)
            self.assertEqual((one, other), (list(heap), list(reversed(heap))))
            self.assertRaises(OnSide, count_at, one, heap[0][0])
            self.assertEqual(one, list(heap))

    def test_altering_the_lists_alters_no_other_answer(self):
        for heap in (FLAT_HEAP, SPACE_HEAP):
            one, other = list(heap), list(heap)
            told = self.answers(one, other)
            self.assertIs(told[1], True)
            one.pop()
            self.assertIs(same(one, other), False)
            self.assertNotEqual(size(one), told[0])
            self.assertEqual(self.answers(list(heap), other), told)


if __name__ == "__main__":
    unittest.main()
