"""One heap led to another: [20], [21], [28], of [5] what speaks of it, and of [2] to [4] what holds for it."""

import itertools
import unittest
from fractions import Fraction

from kinds import CORNER, CUBE_OF_FIVE, CUBE_OF_SIX, FLAT_HEAP, HALF_SQUARE, OTHER_HALF, SPACE_HEAP, SQUARE
from kinds import SQUARE_OTHERWISE, arguments, bar, box_of, content, heap_of, is_cutting, is_plain, is_whole, made
from kinds import moved_by, prism_over, pushed_by, spot, stretched, sums_of_edges, sums_of_sides, sums_of_walls
from kinds import width_of
from scissorhall.cuts import cut
from scissorhall.cuttings import back, behind, comes_of, goes_to, leads
from scissorhall.errors import HallError, OtherSize, OtherSum, TooWide
from scissorhall.heaps import same
from scissorhall.leading import led, pushed

LONG = 10 ** 39 + 7
TINY = Fraction(1, LONG)
FAR = spot(LONG, "-1/3")
FAR_IN_SPACE = spot(LONG, "-1/3", TINY)


def triangle(*corners):
    return heap_of([[spot(*corner) for corner in corners]])


def body(*corners):
    return heap_of([[spot(0, 0, 0)] + [spot(*corner) for corner in corners]])


def sliver(length):
    """Of 2 length + 2 lines and half a cell."""
    return triangle((0, 0), (1, 0), (length, 1))


def scattered(heap, ways, start=0):
    """Each simplex moved by itself, by fractions of the measures."""
    found = ()
    for k, piece in enumerate(heap):
        arrow = spot(*[Fraction((k + start) * (j + 2) - 7, j + 3) for j in range(len(piece) - 1)])
        found += moved_by([piece], ways[(k + start) % len(ways)], arrow)
    return found


def cut_up(heap, lines):
    for line in lines:
        heap = sum(cut(heap, line), ())
    return heap


def least_unlike(one, other):
    first, second = dict(one), dict(other)
    return min(key for key in set(first) | set(second) if first.get(key) != second.get(key))


TALL = triangle((0, 0), (1, 0), (0, 4))
WIDE = triangle((0, 0), (4, 0), (1, 1))
SKEW = triangle((0, 0), (3, 1), (1, 3))
# Pairs of flat heaps of one area.
FLAT_PAIRS = (
    (SQUARE, SQUARE_OTHERWISE),
    ((HALF_SQUARE,), (OTHER_HALF,)),
    ((HALF_SQUARE,) * 2, SQUARE),
    ((HALF_SQUARE,) * 2, bar(0, 0, 2, "1/2")),
    (TALL, WIDE),
    (TALL + TALL, SKEW),
    (SKEW, bar(0, 0, 4, 1)),
    (SKEW + WIDE, bar(5, 5, 6, 11)),
    (SQUARE * 5, triangle((0, 0), (2, 0), (1, 5))),
    (bar(0, 0, 3, 2) + bar(1, 1, 3, 4), bar(0, 0, 4, 3)),
    (triangle((0, 0), (5, 2), (2, 5)), triangle((0, 0), (3, 0), (1, 7))),
    (bar(0, 0, "5/3", "3/7"), bar(0, 0, "5/9", "9/7")),
)
WIDE_BODY = body((2, 0, 0), (0, 2, 0), (0, 0, 2))
SLANTED = box_of((0, 0, 0), (1, 0, 0), (0, 1, 0), (1, 1, 1))
HALF_PRISM = prism_over((HALF_SQUARE,), (0, 0, 1))
# Pairs of heaps in space of one volume whose edge sums agree.
SPACE_PAIRS = (
    (CUBE_OF_SIX, CUBE_OF_FIVE),
    ((CORNER,), moved_by((CORNER,), -1, spot(3, "1/2", 0))),
    (CUBE_OF_SIX, SLANTED),
    (CUBE_OF_FIVE, HALF_PRISM + HALF_PRISM),
    (HALF_PRISM * 2, prism_over((HALF_SQUARE,), (0, 0, 2))),
    (HALF_PRISM, prism_over((OTHER_HALF,), (1, 0, 1))),
    (CUBE_OF_SIX + (CORNER,), moved_by((CORNER,), -1, spot(1, 1, 1)) + SLANTED),
    (WIDE_BODY, scattered(cut_up(WIDE_BODY, [(1, 0, 0, -1)]), (1, -1, -1))),
    (WIDE_BODY, scattered(cut_up(WIDE_BODY, [(0, 1, 1, -1)]), (-1, 1))),
    (box_of((0, 0, 0), (0, 2, 0), (0, 0, 1), (1, -1, 0)), box_of((0, 0, 0), (0, 0, -1), (1, 0, 0), (0, 2, 1))),
)
# Pairs that are of one size and whose sums all agree.
FLAT_PUSHES = (
    (SQUARE, SQUARE_OTHERWISE),
    (SQUARE, bar(0, 0, "1/2", 2)),
    (box_of((0, 0), (3, 1), (1, 2)), bar(0, 0, 5, 1)),
    (box_of((0, 0), (2, 1), (-1, 1)), box_of((5, 5), (1, 2), (1, -1))),
    ((HALF_SQUARE,) + bar(0, 0, 2, 1), bar(0, 0, 1, 2) + (HALF_SQUARE,)),
    (SKEW, scattered(cut_up(SKEW, [(1, 0, -1)]), (1,))),
    (triangle((0, 0), (2, 0), (0, 2)), (HALF_SQUARE,) * 2 + bar(0, 0, 1, 1)),
    (TALL * 3, TALL[:1] + scattered(cut_up(TALL, [(0, 1, -1)]) * 2, (1,))),
)
SPACE_PUSHES = (
    (CUBE_OF_SIX, CUBE_OF_FIVE),
    (CUBE_OF_SIX, SLANTED),
    (CUBE_OF_SIX, box_of((0, 0, 0), (2, 0, 0), (0, "1/2", 0), (0, 0, 1))),
    ((CORNER,) * 2, scattered((CORNER,) * 2, (1,))),
    (HALF_PRISM + CUBE_OF_SIX, scattered(CUBE_OF_SIX + HALF_PRISM, (1,))),
    (WIDE_BODY, scattered(cut_up(WIDE_BODY, [(1, 0, 0, -1)]), (1,))),
    (prism_over((HALF_SQUARE,), (0, 0, 2)), HALF_PRISM * 2),
    (prism_over((HALF_SQUARE,), (0, 0, 1)), prism_over((HALF_SQUARE,), (0, 0, -1))),
)


class LeadingCase(unittest.TestCase):
    def assert_led(self, one, other):
        """Both ways and back; the cutting, for what a test asks further."""
        for first, second in ((one, other), (other, one)):
            told = led(first, second)
            self.assertTrue(is_cutting(told))
            self.assertIs(leads(told, first, second), True)
            self.assertIs(leads(back(told), second, first), True)
        return told

    def assert_pushed(self, one, other):
        for first, second in ((one, other), (other, one)):
            told = pushed(first, second)
            self.assertTrue(is_cutting(told))
            self.assertTrue(all(one_move[0] == 1 for piece, one_move in told))
            self.assertIs(leads(told, first, second, True), True)
            self.assertIs(leads(back(told), second, first, True), True)

    def refusal(self, function, one, other):
        for kinds in itertools.product((list, tuple), repeat=2):
            with self.assertRaises(HallError) as caught:
                function(kinds[0](one), kinds[1](other))
        self.assertTrue(is_plain(tuple(vars(caught.exception).values())))
        return caught.exception

    def assert_other_size(self, function, one, other):
        self.assertIs(type(self.refusal(function, one, other)), OtherSize)

    def assert_other_sum(self, function, one, other, key):
        refused = self.refusal(function, one, other)
        self.assertIs(type(refused), OtherSum)
        self.assertEqual(refused.key, key)

    def assert_too_wide(self, function, one, other, lines, cells):
        self.assertEqual(width_of(one, other), (lines, cells))
        refused = self.refusal(function, one, other)
        self.assertIs(type(refused), TooWide)
        self.assertEqual((refused.lines, refused.cells), (lines, cells))
        self.assertTrue(is_whole(refused.lines))


class Interface(unittest.TestCase):
    def test_arguments(self):
        self.assertEqual(arguments(led), ["one", "other"])
        self.assertEqual(arguments(pushed), ["one", "other"])

    def test_no_simplex(self):
        for one, other in itertools.product(((), []), repeat=2):
            self.assertEqual(led(one, other), ())
            self.assertEqual(pushed(one, other), ())


class Led(LeadingCase):
    def test_flat_heaps(self):
        for one, other in FLAT_PAIRS:
            self.assert_led(one, other)

    def test_heaps_in_space(self):
        for one, other in SPACE_PAIRS:
            self.assertEqual(sums_of_edges(one), sums_of_edges(other))
            self.assert_led(one, other)

    def test_lists_and_tuples(self):
        for one, other in (FLAT_PAIRS[4], SPACE_PAIRS[3]):
            for kinds in itertools.product((list, tuple), repeat=2):
                told = led(kinds[0](one), kinds[1](other))
                self.assertTrue(is_cutting(told))
                self.assertIs(leads(told, one, other), True)

    def test_a_heap_and_itself(self):
        for heap in ((HALF_SQUARE,), SKEW * 3, FLAT_HEAP[:1], (CORNER,), CUBE_OF_FIVE):
            self.assert_led(heap, heap)
            self.assert_led(heap, heap[::-1])

    def test_a_heap_moved_whole(self):
        for heap, arrow in ((SKEW + TALL, FAR), (CUBE_OF_FIVE + (CORNER,), FAR_IN_SPACE)):
            for way in (1, -1):
                self.assert_led(heap, moved_by(heap, way, arrow))

    def test_simplexes_moved_each_by_itself(self):
        for heap in (SQUARE + SKEW, TALL * 4, CUBE_OF_FIVE, (CORNER,) * 3 + HALF_PRISM):
            for start in range(4):
                self.assert_led(heap, scattered(heap, (1, -1, -1), start))

    def test_stretched_by_fractions(self):
        for one, other in FLAT_PAIRS[:8]:
            for factors in (("1/3", 7), (LONG, TINY), ("22/7", "1/100")):
                self.assert_led(stretched(one, factors), pushed_by(stretched(other, factors), FAR))
        for one, other in SPACE_PAIRS[:4]:
            for factors in (("1/3", 7, 2), (LONG, TINY, "5/6")):
                self.assert_led(stretched(one, factors), pushed_by(stretched(other, factors), FAR_IN_SPACE))

    def test_great_numbers(self):
        far = spot(10 ** 129, Fraction(1, 10 ** 129 + 1))
        self.assert_led(pushed_by(TALL, far), moved_by(WIDE, -1, spot(1, far[-1])))
        long = stretched(TALL, (10 ** 120, Fraction(1, 10 ** 100 + 3)))
        self.assert_led(long, stretched(WIDE, (10 ** 120, Fraction(1, 10 ** 100 + 3))))

    def test_many_layers(self):
        self.assert_led((HALF_SQUARE,) * 24, bar(0, 0, 4, 3))
        self.assert_led((HALF_SQUARE,) * 24, SQUARE_OTHERWISE * 12)
        self.assert_led(CUBE_OF_FIVE * 4, CUBE_OF_SIX * 4)
        self.assert_led(CUBE_OF_FIVE * 4, box_of((0, 0, 0), (2, 0, 0), (0, 2, 0), (0, 0, 1)))

    def test_flat_heaps_of_one_area_are_never_refused_but_for_width(self):
        spots = [(0, 0), (1, 0), (3, 1), (2, 3), (0, 2), (-1, 1)]
        found = {}
        for corners in itertools.combinations(spots, 3):
            if content([spot(*corner) for corner in corners]):
                heap = triangle(*corners)
                found.setdefault(content(heap[0]), []).append(heap)
        count = 0
        for heaps in found.values():
            for one, other in itertools.combinations(heaps, 2):
                lines, cells = width_of(one, other)
                if lines <= 40:
                    count += 1
                    self.assertIs(leads(led(one, other), one, other), True)
                else:
                    self.assert_too_wide(led, one, other, lines, cells)
        self.assertGreater(count, 10)

    def test_prisms_are_led_to_prisms(self):
        one = prism_over((HALF_SQUARE,), (0, 0, 2))
        for other in (prism_over((OTHER_HALF,), (1, 0, 2)), CUBE_OF_SIX, prism_over(SQUARE, (0, 1, 1))):
            self.assert_led(one, other)
        self.assert_led(prism_over((HALF_SQUARE,), (0, 1, "1/4")), prism_over((HALF_SQUARE,), (0, 0, "-1/4")))


class Pushed(LeadingCase):
    def test_flat_heaps(self):
        for one, other in FLAT_PUSHES:
            self.assertEqual(sums_of_sides(one), sums_of_sides(other))
            self.assert_pushed(one, other)

    def test_heaps_in_space(self):
        for one, other in SPACE_PUSHES:
            self.assertEqual(sums_of_walls(one), sums_of_walls(other))
            self.assertEqual(sums_of_edges(one), sums_of_edges(other))
            self.assert_pushed(one, other)

    def test_lists_and_tuples(self):
        for one, other in (FLAT_PUSHES[2], SPACE_PUSHES[1]):
            for kinds in itertools.product((list, tuple), repeat=2):
                told = pushed(kinds[0](one), kinds[1](other))
                self.assertTrue(is_cutting(told))
                self.assertIs(leads(told, one, other, True), True)

    def test_stretched_and_pushed_far(self):
        for one, other in FLAT_PUSHES:
            for factors in (("1/3", 7), (LONG, TINY)):
                self.assert_pushed(stretched(one, factors), pushed_by(stretched(other, factors), FAR))
        for one, other in SPACE_PUSHES[:4]:
            self.assert_pushed(stretched(one, (LONG, TINY, "1/2")), stretched(other, (LONG, TINY, "1/2")))

    def test_simplexes_pushed_each_by_itself(self):
        for heap in (SQUARE + SKEW, TALL * 4, CUBE_OF_FIVE, (CORNER,) * 3 + HALF_PRISM):
            for start in range(3):
                self.assert_pushed(heap, scattered(heap, (1,), start))

    def test_turned_twice_over(self):
        # A heap and the same turned about have no sums together.
        one = (HALF_SQUARE,) + moved_by((HALF_SQUARE,), -1, spot(7, 3))
        self.assert_pushed(one, bar(0, 0, 1, 1))
        one = HALF_PRISM + moved_by(HALF_PRISM, -1, spot(7, 3, "1/2"))
        self.assert_pushed(one, CUBE_OF_FIVE)

    def test_led_where_not_pushed(self):
        for one, other in (FLAT_PAIRS[1], FLAT_PAIRS[4]):
            self.assert_led(one, other)
            self.assert_other_sum(pushed, one, other, least_unlike(sums_of_sides(one), sums_of_sides(other)))
        for one, other in (SPACE_PAIRS[1], SPACE_PAIRS[5]):
            self.assert_led(one, other)
            self.assert_other_sum(pushed, one, other, least_unlike(sums_of_walls(one), sums_of_walls(other)))


class OtherSizes(LeadingCase):
    def test_one_heap_empty(self):
        for heap in ((HALF_SQUARE,), SQUARE * 40, (CORNER,), CUBE_OF_FIVE * 5):
            for function in (led, pushed):
                self.assert_other_size(function, (), heap)
                self.assert_other_size(function, heap, ())

    def test_a_little_larger(self):
        for function in (led, pushed):
            self.assert_other_size(function, SQUARE, bar(0, 0, 1, 1 + TINY))
            self.assert_other_size(function, bar(0, 0, 1, 1 - TINY), SQUARE)
            self.assert_other_size(function, SQUARE, SQUARE + SQUARE)
            self.assert_other_size(function, CUBE_OF_FIVE, box_of((0, 0, 0), (1, 0, 0), (0, 1, 0), (0, 0, 1 + TINY)))

    def test_ahead_of_sums_and_of_width(self):
        self.assert_other_size(pushed, (HALF_SQUARE,), (OTHER_HALF,) * 2)
        self.assert_other_size(led, (CORNER,), CUBE_OF_FIVE)
        self.assert_other_size(pushed, (CORNER,), CUBE_OF_FIVE)
        for function in (led, pushed):
            self.assert_other_size(function, sliver(100), SQUARE)
            self.assert_other_size(function, SQUARE * 61, SQUARE * 62)
            self.assert_other_size(function, SPACE_HEAP, CUBE_OF_FIVE)
            self.assert_other_size(function, CUBE_OF_FIVE * 14, CUBE_OF_FIVE * 13)


class OtherSums(LeadingCase):
    def test_key_of_led_in_space(self):
        leaning = body((1, 0, 0), (1, 1, 0), (1, 1, 1))
        pairs = (
            ((CORNER,), leaning),
            ((CORNER,) * 6, CUBE_OF_SIX),
            (CUBE_OF_FIVE, leaning * 6),
            (WIDE_BODY, leaning * 8),
            ((CORNER,) + CUBE_OF_FIVE, leaning + CUBE_OF_SIX),
            (HALF_PRISM, (CORNER,) + leaning * 2),
        )
        for one, other in pairs:
            key = least_unlike(sums_of_edges(one), sums_of_edges(other))
            self.assert_other_sum(led, one, other, key)
            self.assert_other_sum(led, other, one, key)
        self.assert_other_sum(led, (CORNER,) * 6, CUBE_OF_SIX, ((0, 0, 1), (0, 1, 0)))

    def test_a_sum_that_differs_in_its_number_alone(self):
        # Both heaps have the same pairs of ways; the flatter body stands twice, so that some sums are twice as great.
        one = stretched((CORNER,), (2, 1, 1))
        other = (CORNER,) * 2
        key = least_unlike(sums_of_edges(one), sums_of_edges(other))
        self.assert_other_sum(led, one, other, key)
        one, other = WIDE_BODY, (CORNER,) * 8
        self.assertEqual([key for key, share in sums_of_edges(one)], [key for key, share in sums_of_edges(other)])
        self.assert_other_sum(led, one, other, ((0, 0, 1), (0, 1, 0)))

    def test_key_of_pushed_flat(self):
        self.assert_other_sum(pushed, (HALF_SQUARE,), (OTHER_HALF,), (0, 1))
        self.assert_other_sum(pushed, (HALF_SQUARE,) * 2, SQUARE, (0, 1))
        for one, other in ((TALL, WIDE), (SKEW, bar(0, 0, 4, 1)), (TALL * 2, SKEW), (SKEW, moved_by(SKEW, -1, FAR))):
            key = least_unlike(sums_of_sides(one), sums_of_sides(other))
            self.assert_other_sum(pushed, one, other, key)
            self.assert_other_sum(pushed, other, one, key)

    def test_the_least_way_by_its_numbers(self):
        # The sums agree at (0, 1) and differ from (1, -1) on.
        self.assert_other_sum(pushed, (HALF_SQUARE,), triangle((0, 0), (1, 1), (0, 1)), (1, -1))

    def test_key_of_pushed_in_space(self):
        one, other = (CORNER,), moved_by((CORNER,), -1, spot(0, 0, 0))
        self.assert_other_sum(pushed, one, other, (0, 0, 1))
        self.assert_other_sum(pushed, HALF_PRISM * 2, CUBE_OF_FIVE, (0, 1, 0))

    def test_edges_where_the_walls_agree(self):
        # With the same turned about put to each, no walls are left.
        for one, other in (((CORNER,) * 6, CUBE_OF_SIX), (WIDE_BODY, (CORNER,) * 8)):
            one, other = one + moved_by(one, -1, spot(1, 2, 3)), other + moved_by(other, -1, spot(0, 0, "1/2"))
            self.assertEqual(sums_of_walls(one), sums_of_walls(other))
            key = least_unlike(sums_of_edges(one), sums_of_edges(other))
            self.assert_other_sum(pushed, one, other, key)
            self.assert_other_sum(led, one, other, key)

    def test_ahead_of_width(self):
        long = body((1, 0, 0), (0, 1, 0), (30, 20, 1))
        self.assertGreater(width_of(long, (CORNER,))[0], 24)
        for function in (led, pushed):
            refused = self.refusal(function, (CORNER,), long)
            self.assertIs(type(refused), OtherSum)
        self.assert_other_sum(pushed, sliver(100), moved_by(sliver(100), -1, spot(0, 0)), (1, 0))
        self.assert_other_sum(pushed, (HALF_SQUARE,) * 122, SQUARE * 61, (0, 1))


class Widths(LeadingCase):
    def test_lines_at_the_bound_and_above(self):
        self.assertEqual(width_of(sliver(19), sliver(19)), (40, (1, 2)))
        self.assert_led(sliver(19), moved_by(sliver(19), -1, spot("1/2", 5)))
        self.assert_pushed(sliver(19), pushed_by(sliver(19), spot("1/2", 5)))
        for function in (led, pushed):
            self.assert_too_wide(function, sliver(20), sliver(20), 42, (1, 2))
        self.assert_too_wide(led, sliver(18), (HALF_SQUARE,), 41, (1, 2))
        self.assert_too_wide(led, (HALF_SQUARE,), sliver(18), 41, (1, 2))
        one, other = sliver(10), triangle((0, 0), (0, 1), (1, 8))
        self.assertEqual(width_of(one, other), (40, (1, 2)))
        self.assert_led(one, other)

    def test_cells_at_the_bound_and_above(self):
        self.assertEqual(width_of(SQUARE * 60, SQUARE * 60)[1], (60, 1))
        self.assert_led(SQUARE * 60, bar(0, 0, 10, 6))
        self.assert_pushed(SQUARE_OTHERWISE * 60, bar(0, 0, 6, 10))
        little = (HALF_SQUARE,)
        self.assert_too_wide(led, SQUARE * 60 + little, bar(0, 0, 10, 6) + little, 12, (121, 2))
        self.assert_too_wide(pushed, SQUARE_OTHERWISE * 60 + little, little + bar(0, 0, 6, 10), 14, (121, 2))
        self.assert_too_wide(led, bar(0, 0, 61, 1), SQUARE * 61, 66, (61, 1))

    def test_lines_in_space_at_the_bound_and_above(self):
        one = box_of((0, 0, 0), (1, -1, 1), (1, 0, 1), (0, 0, 1))
        other = box_of((0, 0, 0), (0, 1, 1), (0, -1, 0), (1, 1, 0))
        self.assertEqual(width_of(one, other), (24, (1, 1)))
        self.assert_led(one, other)
        self.assert_pushed(one, other)
        one = box_of((0, 0, 0), (1, -1, -1), (1, -1, 0), (0, 1, 0))
        other = box_of((0, 0, 0), (0, 0, 1), (0, 1, 0), (1, 0, 1))
        for function in (led, pushed):
            self.assert_too_wide(function, one, other, 25, (1, 1))
            self.assert_too_wide(function, other, one, 25, (1, 1))

    def test_cells_in_space_at_the_bound_and_above(self):
        self.assertEqual(width_of(CUBE_OF_FIVE * 12, CUBE_OF_SIX * 12)[1], (12, 1))
        self.assert_led(CUBE_OF_FIVE * 12, CUBE_OF_SIX * 12)
        self.assert_pushed(CUBE_OF_FIVE * 12, CUBE_OF_SIX * 12)
        little = (CORNER,)
        for function in (led, pushed):
            self.assert_too_wide(function, CUBE_OF_SIX * 12 + little, little + CUBE_OF_SIX * 12, 12, (73, 6))
            self.assert_too_wide(function, CUBE_OF_FIVE * 13, CUBE_OF_SIX * 13, 21, (13, 1))

    def test_lines_and_cells_as_told(self):
        # Heaps of too many cells, so that both numbers are told.
        for factor, one, other in ((700, SKEW, TALL * 2), (400, FLAT_HEAP[:1], FLAT_HEAP[:1]), (130, WIDE, TALL)):
            one, other = one * factor, other * factor
            self.assert_too_wide(led, one, other, *width_of(one, other))
        for heap in (
            WIDE_BODY * 73, SPACE_HEAP, SLANTED * 13, HALF_PRISM * 25, body((1, 2, 3), (3, -1, 2), (-2, 3, 2)) * 9,
        ):
            for other in (heap, scattered(heap, (1, -1))):
                self.assert_too_wide(led, heap, other, *width_of(heap, other))

    def test_each_direction_once(self):
        # Right halves of a square know three directions, both diagonals four, whatever their number and signs.
        one = (HALF_SQUARE,) * 122
        self.assert_too_wide(led, one, (OTHER_HALF,) * 122, 4, (61, 1))
        self.assert_too_wide(led, one, SQUARE_OTHERWISE * 61, 6, (61, 1))
        self.assert_too_wide(led, SQUARE * 61, SQUARE * 61, 4, (61, 1))
        self.assert_too_wide(led, (CORNER,) * 73, moved_by((CORNER,) * 73, -1, spot(1, 1, 1)), 6, (73, 6))

    def test_stretching_and_pushing_change_neither(self):
        one, other = (HALF_SQUARE,) * 60 + SKEW * 10, SQUARE * 30 + moved_by(SKEW, -1, FAR) * 10
        lines, cells = width_of(one, other)
        for factors in (("1/3", 7), (LONG, TINY), ("22/7", "1/100")):
            first, second = pushed_by(stretched(one, factors), FAR), stretched(other, factors)
            self.assert_too_wide(led, first, scattered(second, (1, -1)), lines, cells)
        one, other = CUBE_OF_FIVE * 13, SLANTED * 13
        lines, cells = width_of(one, other)
        for factors in (("1/3", 7, 5), (LONG, TINY, "22/7")):
            first, second = stretched(one, factors), pushed_by(stretched(other, factors), FAR_IN_SPACE)
            for function in (led, pushed):
                self.assert_too_wide(function, first, second, lines, cells)

    def test_steps_are_those_of_both_heaps(self):
        # By itself the square has one cell; beside thin bars it has more.
        one, other = SQUARE * 8, bar(0, 0, "1/8", 8) * 8
        self.assert_too_wide(led, one, other, 20, (64, 1))
        self.assert_too_wide(led, other, one, 20, (64, 1))
        self.assert_too_wide(pushed, SQUARE, bar(0, 0, "1/61", 61), *width_of(SQUARE, bar(0, 0, "1/61", 61)))

    def test_the_same_heap_parted_otherwise_may_be_too_wide(self):
        middle = triangle((0, 0), (1, 0), ("1/50", "1/2")) + triangle((1, 0), (0, 1), ("1/50", "1/2"))
        parted = middle + triangle((0, 1), (0, 0), ("1/50", "1/2"))
        self.assertIs(same(parted, (HALF_SQUARE,)), True)
        self.assert_led((HALF_SQUARE,), (HALF_SQUARE,))
        self.assert_too_wide(led, (HALF_SQUARE,), parted, *width_of((HALF_SQUARE,), parted))


class AtTheBounds(LeadingCase):
    def test_flat_slivers_across_one_another(self):
        one, other = sliver(10) * 120, triangle((0, 0), (0, 1), (1, 8)) * 120
        self.assertEqual(width_of(one, other), (40, (60, 1)))
        self.assertIs(leads(led(one, other), one, other), True)

    def test_flat_one_great_simplex(self):
        one, other = triangle((0, 0), (10, 0), (0, 12)), bar(0, 0, 6, 10)
        self.assertIs(leads(led(one, other), one, other), True)

    def test_in_space(self):
        one = box_of((0, 0, 0), (1, -1, 1), (1, 0, 1), (0, 0, 1)) * 12
        other = box_of((0, 0, 0), (0, 1, 1), (0, -1, 0), (1, 1, 0)) * 12
        self.assertEqual(width_of(one, other), (24, (12, 1)))
        self.assertIs(leads(led(one, other), one, other), True)
        self.assertIs(leads(pushed(one, other), one, other, True), True)


class OneBehindTheOther(LeadingCase):
    def test_led_and_led_again(self):
        first, second = led(TALL, WIDE), led(WIDE, bar(0, 0, 2, 1))
        self.assertIs(leads(behind(first, second), TALL, bar(0, 0, 2, 1)), True)
        first, second = led(HALF_PRISM * 2, CUBE_OF_SIX), led(CUBE_OF_SIX, SLANTED)
        self.assertIs(leads(behind(first, second), HALF_PRISM * 2, SLANTED), True)

    def test_pushed_and_pushed_again(self):
        first, second = pushed(SQUARE, bar(0, 0, 2, "1/2")), pushed(bar(0, 0, 2, "1/2"), bar(0, 0, "1/2", 2))
        self.assertIs(leads(behind(first, second), SQUARE, bar(0, 0, "1/2", 2), True), True)
        first, second = pushed(CUBE_OF_FIVE, CUBE_OF_SIX), pushed(CUBE_OF_SIX, SLANTED)
        self.assertIs(leads(behind(first, second), CUBE_OF_FIVE, SLANTED, True), True)

    def test_pushed_behind_led_and_back(self):
        first = led((HALF_SQUARE,) * 2, SQUARE)
        second = pushed(SQUARE, bar(0, 0, 2, "1/2"))
        whole = behind(first, second)
        self.assertIs(leads(whole, (HALF_SQUARE,) * 2, bar(0, 0, 2, "1/2")), True)
        home = behind(whole, back(whole))
        self.assertIs(same(comes_of(home), goes_to(home)), True)


class WhatHoldsThroughout(unittest.TestCase):
    def test_what_is_handed_in_stays(self):
        for one, other in (FLAT_PUSHES[2], SPACE_PUSHES[1]):
            first, second = list(one), list(other)
            for function in (led, pushed):
                told = function(first, second)
                self.assertEqual((first, second), (list(one), list(other)))
                self.assertRaises(OtherSize, function, first, second[1:])
                kept = repr(told)
                first.reverse()
                first.pop()
                self.assertEqual(repr(told), kept)
                first = list(one)
                self.assertIs(leads(function(first, second), one, other), True)

    def test_a_refusal_is_the_same_when_asked_again(self):
        for asked in range(2):
            with self.assertRaises(TooWide) as caught:
                led(sliver(20), sliver(20))
            self.assertEqual((caught.exception.lines, caught.exception.cells), (42, (1, 2)))
            with self.assertRaises(OtherSum) as caught:
                led((CORNER,) * 6, CUBE_OF_SIX)
            self.assertEqual(caught.exception.key, ((0, 0, 1), (0, 1, 0)))


if __name__ == "__main__":
    unittest.main()
