"""Folding: steps [18] and layers [19], and of [2] to [4] what holds for them."""

import itertools
import unittest
from fractions import Fraction
from math import floor, gcd

from kinds import CORNER, CUBE_OF_FIVE, CUBE_OF_SIX, FLAT_HEAP, HALF_SQUARE, OTHER_HALF, SPACE_HEAP, SQUARE, amidst
from kinds import arguments, content, heap_of, is_plain, is_whole, made, point_of, pushed_by, spot, stand, worths
from scissorhall.errors import HallError, OnSide
from scissorhall.folds import layers, steps
from scissorhall.points import turned

LONG = 10 ** 39 + 7
TINY = Fraction(1, LONG)
# Simplexes that go over up to four steps in a measure, of steps that are no whole numbers, some far off.
WIDE_FLAT = heap_of(
    [
        (spot(0, 0), spot("4/3", "1/2"), spot("1/3", 2)),
        (spot("100/7", LONG), spot("107/7", LONG), spot("293/21", LONG + Fraction(3, 2))),
        (spot(0, 0), spot("4/3", "1/2"), spot("1/3", 2)),
        (spot(-5, "-9/2"), spot("-17/3", -4), spot(-6, -5)),
    ]
)
WIDE_SPACE = heap_of(
    [
        (spot(0, 0, 0), spot("4/3", "1/2", 0), spot("1/3", 2, 5), spot(0, "1/2", 20)),
        (spot(7, 7, LONG), spot("22/3", 7, LONG), spot(7, 6, LONG), spot(7, 7, LONG - 5)),
        (spot(7, 7, LONG), spot("22/3", 7, LONG), spot(7, 6, LONG), spot(7, 7, LONG - 5)),
        (spot(-5, "-9/2", 1), spot("-17/3", -4, 6), spot(-6, -5, 11), spot(-5, -5, -4)),
    ]
)
SKEW_SPACE = heap_of([(spot(0, 0, 0), spot(4, 1, 1), spot(1, 4, 0), spot(2, 1, 3))])
FLAT_GRID = ((1, 3), (1, 2))
SPACE_GRID = ((1, 3), (1, 2), (5, 1))


def shared_of(worths_of_parts):
    """The greatest fraction of which all are whole multiples, by one bottom for all."""
    bottom = 1
    for one in worths_of_parts:
        bottom *= one.denominator
    top = 0
    for one in worths_of_parts:
        top = gcd(top, int(one * bottom))
    return Fraction(top, bottom)


def steps_of(heaps):
    pieces = [piece for heap in heaps for piece in heap]
    parts = [[] for _ in pieces[0][0][:-1]]
    for piece in pieces:
        for p, q in itertools.combinations(piece, 2):
            for k, (x, y) in enumerate(zip(worths(p), worths(q))):
                parts[k].append(x - y)
    return tuple((step.numerator, step.denominator) for step in map(shared_of, parts))


def stands_over(heap, grid, p):
    """How p with each grid arrow that may bring it there stands to each pushed simplex."""
    found = []
    wide = [Fraction(*step) for step in grid]
    for piece in heap:
        first = worths(piece[0])
        pushed = tuple(point_of([x - a for x, a in zip(worths(q), first)]) for q in piece)
        ranges = []
        for k, step in enumerate(wide):
            ends = [worths(q)[k] for q in pushed]
            start = floor((min(ends) - worths(p)[k]) / step)
            ranges.append(range(start, start + floor((max(ends) - min(ends)) / step) + 3))
        for numbers in itertools.product(*ranges):
            there = point_of([x + n * step for x, n, step in zip(worths(p), numbers, wide)])
            found.append(stand(pushed, there))
    return found


class Interface(unittest.TestCase):
    def test_arguments(self):
        self.assertEqual(arguments(steps), ["heaps"])
        self.assertEqual(arguments(layers), ["heap", "grid", "p"])


class Steps(unittest.TestCase):
    def assert_steps(self, heaps, expected):
        for handed in (list(heaps), tuple(heaps)):
            told = steps(handed)
            self.assertEqual(told, expected)
            self.assertTrue(is_plain(told))

    def test_without_a_simplex(self):
        for heaps in ((), ((),), ((), (), ())):
            self.assert_steps(heaps, ())

    def test_flat(self):
        self.assert_steps([SQUARE], ((1, 1), (1, 1)))
        self.assert_steps([(made((spot(0, 0), spot(4, 6), spot(2, -6))),)], ((2, 1), (6, 1)))
        self.assert_steps([(made((spot("1/2", 0), spot("1/3", 4), spot("1/6", -4))),)], ((1, 6), (4, 1)))
        self.assert_steps([(made((spot(0, 0), spot("1/2", "2/3"), spot("1/3", "4/5"))),)], ((1, 6), (2, 15)))

    def test_in_space(self):
        self.assert_steps([CUBE_OF_SIX], ((1, 1), (1, 1), (1, 1)))
        piece = made((spot(0, 0, 0), spot(4, "1/2", 1), spot(6, 0, "1/7"), spot(0, "3/2", 0)))
        self.assert_steps([(piece,)], ((2, 1), (1, 2), (1, 7)))

    def test_edges_without_a_part_in_a_measure(self):
        self.assert_steps([(made((spot(3, 5), spot(3, 7), spot(8, 5))),)], ((5, 1), (2, 1)))
        piece = made((spot(1, 1, 1), spot(3, 1, 1), spot(1, 4, 1), spot(1, 1, "-4/3")))
        self.assert_steps([(piece,)], ((2, 1), (3, 1), (7, 3)))

    def test_where_a_heap_stands_does_not_matter(self):
        far = pushed_by(SQUARE, spot("1/7", LONG))
        self.assert_steps([far], ((1, 1), (1, 1)))
        self.assert_steps([far, SQUARE], ((1, 1), (1, 1)))

    def test_several_heaps(self):
        small = (made((spot(0, 0), spot("2/3", 0), spot(0, "3/2"))),)
        self.assert_steps([SQUARE, small], ((1, 3), (1, 2)))
        self.assert_steps([small, (), SQUARE], ((1, 3), (1, 2)))
        self.assert_steps([(), small], ((2, 3), (3, 2)))
        self.assert_steps([WIDE_FLAT], FLAT_GRID)
        self.assert_steps([WIDE_SPACE], SPACE_GRID)

    def test_by_all_edges_of_all(self):
        for heaps in ([FLAT_HEAP], [SQUARE, FLAT_HEAP], [(), FLAT_HEAP[1:], WIDE_FLAT, FLAT_HEAP]):
            self.assert_steps(heaps, steps_of(heaps))
        for heaps in ([SPACE_HEAP], [CUBE_OF_FIVE, SPACE_HEAP], [(), SPACE_HEAP[1:], WIDE_SPACE, SKEW_SPACE]):
            self.assert_steps(heaps, steps_of(heaps))
        for piece in FLAT_HEAP + SPACE_HEAP + WIDE_FLAT + WIDE_SPACE + SKEW_SPACE:
            self.assert_steps([(piece,)], steps_of([(piece,)]))

    def test_great_numbers(self):
        piece = made((spot(0, 0), spot(LONG, TINY), spot(0, 6 * TINY)))
        self.assert_steps([(piece,)], ((LONG, 1), (1, LONG)))


class Layers(unittest.TestCase):
    def assert_layers(self, heap, grid, p, expected):
        for handed in (list(heap), tuple(heap)):
            told = layers(handed, grid, p)
            self.assertTrue(is_whole(told))
            self.assertEqual(told, expected, p)

    def assert_on_side(self, heap, grid, p):
        for handed in (list(heap), tuple(heap)):
            with self.assertRaises(HallError) as caught:
                layers(handed, grid, p)
            self.assertIs(type(caught.exception), OnSide)

    def assert_as_told(self, heap, grid, p):
        stands = stands_over(heap, grid, p)
        if 0 in stands:
            self.assert_on_side(heap, grid, p)
        else:
            self.assert_layers(heap, grid, p, stands.count(1))

    def test_the_empty_heap(self):
        for p in (spot(0, 0), spot("1/3", 5)):
            self.assert_layers((), (), p, 0)
            self.assert_layers((), FLAT_GRID, p, 0)
        for p in (spot(0, 0, 0), spot("1/3", 5, 1)):
            self.assert_layers((), (), p, 0)
            self.assert_layers((), SPACE_GRID, p, 0)

    def test_a_square(self):
        grid = steps([SQUARE])
        # Both halves are pushed: the one has its points in the cell, the other one in the cell below.
        for p in (spot("1/4", "1/3"), spot("3/4", "2/3"), spot("41/4", "-11/3")):
            self.assert_as_told(SQUARE, grid, p)
        self.assert_layers([HALF_SQUARE], grid, spot("1/4", "1/4"), 1)
        self.assert_layers([HALF_SQUARE], grid, spot("3/4", "3/4"), 0)
        self.assert_layers([HALF_SQUARE, HALF_SQUARE], grid, spot("1/4", "1/4"), 2)
        self.assert_layers([OTHER_HALF], grid, spot("1/4", "1/3"), 0)
        self.assert_layers([OTHER_HALF], grid, spot("3/4", "2/3"), 1)

    def test_a_simplex_of_several_cells(self):
        wide = made((spot(0, 0), spot(2, 0), spot(0, 2)))
        grid = ((1, 1), (1, 1))
        self.assert_layers([wide], grid, spot("1/4", "1/4"), 3)
        self.assert_layers([wide], grid, spot("3/4", "3/4"), 1)
        self.assert_layers([wide], ((2, 1), (2, 1)), spot("1/4", "1/4"), 1)
        self.assert_layers([wide], ((2, 1), (2, 1)), spot("7/4", "7/4"), 0)
        self.assert_layers([CORNER], ((1, 1),) * 3, spot("1/4", "1/4", "1/4"), 1)
        self.assert_layers([CORNER], ((1, 1),) * 3, spot("-3/4", "1/4", "401/4"), 1)
        self.assert_layers([CORNER], ((1, 1),) * 3, spot("3/4", "1/4", "1/4"), 0)

    def test_four_steps_in_each_measure(self):
        wide = made((spot(0, 0), spot(4, 0), spot(0, 4)))
        self.assert_layers([wide], ((1, 1), (1, 1)), spot("1/4", "1/4"), 10)
        self.assert_layers([wide], ((1, 1), (1, 1)), spot("3/4", "3/4"), 6)
        wide = made((spot(0, 0, 0), spot(4, 0, 0), spot(0, 4, 0), spot(0, 0, 4)))
        self.assert_layers([wide], ((1, 1),) * 3, spot("1/4", "1/4", "1/4"), 20)

    def test_flat_heaps(self):
        spots = [spot(Fraction(x, 21), Fraction(y, 22)) for x in (-40, 1, 3, 100) for y in (-35, 2, 9)]
        for heap, grid in ((WIDE_FLAT, FLAT_GRID), (SQUARE, ((1, 2), (1, 3))), (WIDE_FLAT[:1], steps([WIDE_FLAT[:1]]))):
            for p in spots:
                self.assert_as_told(heap, grid, p)

    def test_heaps_in_space(self):
        rows = ((-40, 3, -5), (1, 80, 51), (1, 3, 51))
        spots = [spot(Fraction(x, 21), Fraction(y, 22), Fraction(z, 13)) for x, y, z in rows]
        half_steps = ((1, 1), (1, 2), (1, 1))
        for heap, grid in ((WIDE_SPACE, SPACE_GRID), (SKEW_SPACE, ((1, 1),) * 3), (CUBE_OF_FIVE, half_steps)):
            for p in spots:
                self.assert_as_told(heap, grid, p)

    def test_grid_arrows_change_nothing(self):
        p = spot("2/21", "3/22")
        for x, y in ((1, 0), (0, -1), (-7, 12), (LONG, -LONG)):
            far = spot(Fraction(2, 21) + Fraction(x, 3), Fraction(3, 22) + Fraction(y, 2))
            self.assertEqual(layers(WIDE_FLAT, FLAT_GRID, far), layers(WIDE_FLAT, FLAT_GRID, p))
        p = spot("2/21", "3/22", "1/13")
        for x, y, z in ((1, 0, 0), (0, -1, 2), (LONG, LONG, -LONG)):
            far = spot(Fraction(2, 21) + Fraction(x, 3), Fraction(3, 22) + Fraction(y, 2), Fraction(1, 13) + 5 * z)
            self.assertEqual(layers(WIDE_SPACE, SPACE_GRID, far), layers(WIDE_SPACE, SPACE_GRID, p))

    def test_pushes_of_a_simplex_change_nothing(self):
        # Another corner may be the first one behind a push, but it lies a grid arrow off.
        p = spot("2/21", "3/22")
        for heap, grid in ((WIDE_FLAT, FLAT_GRID), (SQUARE, ((1, 1),) * 2)):
            expected = layers(heap, grid, p)
            for arrow in (spot(5, -7), spot("1/7", LONG)):
                self.assert_layers(pushed_by(heap, arrow), grid, p, expected)

    def test_at_grid_points(self):
        for p in (spot(0, 0), spot(5, -3), spot("1/3", "1/2")):
            self.assert_on_side(WIDE_FLAT, FLAT_GRID, p)
        for p in (spot(0, 0, 0), spot("1/3", "1/2", 5)):
            self.assert_on_side(WIDE_SPACE, SPACE_GRID, p)

    def test_on_borders(self):
        for heap, grid in ((WIDE_FLAT, FLAT_GRID), (WIDE_SPACE, SPACE_GRID), (SKEW_SPACE, ((1, 1),) * 3)):
            for piece in heap:
                arrow = point_of([-x for x in worths(piece[0])])
                pushed = pushed_by([piece], arrow)[0]
                for count in range(1, len(piece)):
                    for corners in itertools.combinations(pushed, count):
                        on = amidst(corners, [1, 2, 4][:count])
                        far = spot(*[x + 9 * Fraction(*step) for x, step in zip(worths(on), grid)])
                        for p in (on, far):
                            self.assert_on_side(heap, grid, p)

    def test_a_border_of_any_simplex(self):
        wide = made((spot(0, 0), spot(2, 0), spot(0, 2)))
        other = made((spot(0, 0), spot(1, 2), spot(-1, 1)))
        p = spot("1/3", "2/3")
        grid = ((1, 1), (1, 1))
        for heap in ([wide, other], [other, wide]):
            self.assertIn(0, stands_over(heap, grid, p))
            self.assert_on_side(heap, grid, p)

    def test_on_the_line_of_an_edge_but_beside_it(self):
        # The line goes on through the cell, the edge does not.
        piece = made((spot(0, 0), spot(3, 1), spot(0, 4)))
        seen = set()
        for x, y in itertools.product(range(12), range(0, 12, 4)):
            p = spot(Fraction(x, 12), Fraction(y, 12))
            seen.add(0 in stands_over([piece], ((3, 1), (1, 1)), p))
            self.assert_as_told([piece], ((3, 1), (1, 1)), p)
        self.assertEqual(seen, {True, False})

    def test_just_beside_a_border(self):
        grid = ((1, 1), (1, 1))
        for p, expected in (
            (spot(TINY, TINY), 1),
            (spot(-TINY, 2 * TINY), 0),
            (spot(-2 * TINY, TINY), 1),
            (spot(Fraction(1, 2), Fraction(1, 2) - TINY), 1),
            (spot(Fraction(1, 2), Fraction(1, 2) + TINY), 0),
        ):
            self.assert_layers([HALF_SQUARE], grid, p, expected)
        self.assert_on_side([HALF_SQUARE], grid, spot("1/2", "1/2"))
        grid = ((1, 1),) * 3
        self.assert_layers([CORNER], grid, spot("1/3", "1/3", Fraction(1, 3) - TINY), 1)
        self.assert_layers([CORNER], grid, spot("1/3", "1/3", Fraction(1, 3) + TINY), 0)
        self.assert_on_side([CORNER], grid, spot("1/3", "1/3", "1/3"))

    def test_at_a_point_and_turned(self):
        for heap, grid in ((WIDE_FLAT, FLAT_GRID), (SQUARE, ((1, 1),) * 2), (SQUARE, ((1, 3), (1, 2)))):
            twice = 2 * sum(content(piece) for piece in heap)
            expected = twice / (Fraction(*grid[0]) * Fraction(*grid[1]))
            for x, y in ((1, 2), (5, 3), (11, 19), (-40, 300)):
                p = spot(Fraction(x, 23), Fraction(y, 29))
                self.assertEqual(layers(heap, grid, p) + layers(heap, grid, turned(p)), expected)

    def test_heaps_of_one_area_and_no_side_sums(self):
        # Parallelograms of one area: as many layers at each point, in one grid.
        slant = heap_of([(spot(0, 0), spot(1, 0), spot(2, 1)), (spot(1, 0), spot(2, 1), spot(3, 1))])
        slant = (slant[0], made((spot(0, 0), spot(2, 1), spot(1, 1))))
        grid = steps([SQUARE, slant])
        for x, y in itertools.product(range(1, 7), repeat=2):
            p = spot(Fraction(x, 7) + Fraction(1, 100), Fraction(y, 7))
            self.assertEqual(layers(SQUARE, grid, p), layers(slant, grid, p))

    def test_a_cube_of_six_and_one_of_five(self):
        grid = steps([CUBE_OF_SIX, CUBE_OF_FIVE])
        for x, y, z in itertools.product((1, 3), (2, 5), (1, 6)):
            p = spot(Fraction(x, 7), Fraction(y, 11), Fraction(z, 13))
            self.assertEqual(layers(CUBE_OF_SIX, grid, p), layers(CUBE_OF_FIVE, grid, p))


class WhatHoldsThroughout(unittest.TestCase):
    def test_what_is_handed_in_stays(self):
        flat = (WIDE_FLAT, FLAT_GRID, spot("2/21", "3/22"))
        space = (WIDE_SPACE, SPACE_GRID, spot("2/21", "3/22", 1))
        for heap, grid, p in (flat, space):
            handed = [heap, heap[1:]]
            steps(handed)
            self.assertEqual(handed, [heap, heap[1:]])
            handed = list(heap)
            layers(handed, grid, p)
            self.assertRaises(OnSide, layers, handed, grid, spot(*[0] * len(grid)))
            self.assertEqual(handed, list(heap))

    def test_altering_the_lists_alters_no_answer(self):
        handed = [SQUARE, WIDE_FLAT]
        told = steps(handed)
        handed.pop()
        self.assertEqual(told, FLAT_GRID)
        self.assertEqual(steps(handed), ((1, 1), (1, 1)))
        self.assertEqual(steps([SQUARE, WIDE_FLAT]), FLAT_GRID)
        handed = list(WIDE_FLAT)
        p = spot("2/21", "3/22")
        told = layers(handed, FLAT_GRID, p)
        handed.append(handed[0])
        self.assertEqual(layers(handed, FLAT_GRID, p), told + layers(handed[:1], FLAT_GRID, p))
        self.assertEqual(layers(list(WIDE_FLAT), FLAT_GRID, p), told)


if __name__ == "__main__":
    unittest.main()
