"""Boxes of a given width: [22], and of [2] to [4] what holds for them."""

import itertools
import unittest
from fractions import Fraction

from kinds import FLAT_HEAP, HALF_SQUARE, SQUARE, arguments, bar, content, heap_of, is_cutting, is_plain, is_simplex
from kinds import moved_by, spot, stretched, width_of
from scissorhall.boxed import boxed, long_box
from scissorhall.cuttings import back, leads
from scissorhall.errors import HallError, NoBox, TooWide
from scissorhall.leading import led

LONG = 10 ** 39 + 7
TALL = heap_of([(spot(0, 0), spot(1, 0), spot(0, 4))])
SKEW = heap_of([(spot(0, 0), spot(3, 1), spot(1, 3))])


def told(worth):
    worth = Fraction(worth)
    return (worth.numerator, worth.denominator)


def area_of(heap):
    return sum(content(piece) for piece in heap)


def box_told(area, width):
    """The box by its words, with Python's fractions."""
    length = Fraction(area) / Fraction(width)
    low, end, high = spot(length, 0), spot(length, width), spot(0, width)
    return tuple(sorted(heap_of([(spot(0, 0), low, end), (spot(0, 0), end, high)])))


class BoxCase(unittest.TestCase):
    def refusal(self, function, *handed):
        with self.assertRaises(HallError) as caught:
            function(*handed)
        return caught.exception

    def assert_no_box(self, function, *handed):
        self.assertIs(type(self.refusal(function, *handed)), NoBox)


class LongBox(BoxCase):
    def test_arguments(self):
        self.assertEqual(arguments(long_box), ["area", "width"])
        self.assertEqual(arguments(boxed), ["heap", "width"])

    def test_the_very_simplexes(self):
        ends = ((0, 0, 1), (2, 0, 1), (2, 3, 1), (0, 3, 1))
        expected = ((ends[0], ends[1], ends[2]), (ends[0], ends[2], ends[3]))
        self.assertEqual(long_box((6, 1), (3, 1)), tuple(sorted(expected)))

    def test_many_areas_and_widths(self):
        worths = (1, 2, 12, "1/2", "7/3", "1/1000", "355/113", LONG, Fraction(1, LONG), Fraction(LONG, LONG - 1))
        for area, width in itertools.product(worths, repeat=2):
            heap = long_box(told(area), told(width))
            self.assertEqual(heap, box_told(area, width))
            self.assertEqual(heap, tuple(sorted(heap)))
            self.assertTrue(all(is_simplex(piece) for piece in heap))
            self.assertTrue(is_plain(heap))
            self.assertEqual(area_of(heap), Fraction(area))

    def test_no_area(self):
        for width in (1, "1/7", LONG):
            self.assertEqual(long_box((0, 1), told(width)), ())

    def test_no_width_or_less(self):
        for area, width in itertools.product((1, 0, "1/2", -1, LONG), (0, -1, "-1/7", -LONG)):
            self.assert_no_box(long_box, told(area), told(width))

    def test_less_than_no_area(self):
        for area, width in itertools.product((-1, "-1/1000", -LONG), (1, "1/2", LONG, 0, -1)):
            self.assert_no_box(long_box, told(area), told(width))


class Boxed(BoxCase):
    def assert_boxed(self, heap, width):
        for handed in (list(heap), tuple(heap)):
            cutting = boxed(handed, told(width))
            self.assertTrue(is_cutting(cutting))
            self.assertIs(leads(cutting, heap, box_told(area_of(heap), width)), True)
            self.assertIs(leads(back(cutting), box_told(area_of(heap), width), heap), True)

    def test_no_simplex(self):
        for width in (1, "1/3", LONG):
            self.assertEqual(boxed((), told(width)), ())
            self.assertEqual(boxed([], told(width)), ())

    def test_one_simplex(self):
        for width in (1, 2, "1/2", "1/3", 4):
            self.assert_boxed((HALF_SQUARE,), width)
        for width in (1, 2, 4, "1/2", 8):
            self.assert_boxed(TALL, width)
        self.assert_boxed(SKEW, 1)

    def test_several_simplexes(self):
        for width in (1, 2, 3, "1/2", 6):
            self.assert_boxed(SQUARE + bar(3, 3, 4, 5), width)
        self.assert_boxed(TALL + moved_by(TALL, -1, spot("1/3", 7)) + SQUARE, 1)
        self.assert_boxed(SQUARE * 6, 3)

    def test_widths_below_above_and_at_a_step(self):
        # The heap's own steps are 1.
        for width in ("1/2", "1/3", 1, 2, 3, "3/2"):
            self.assert_boxed((HALF_SQUARE,) * 2, width)

    def test_stretched(self):
        for factors in ((LONG, Fraction(1, LONG)), ("1/3", "22/7")):
            heap = stretched(TALL, factors)
            self.assert_boxed(heap, Fraction(factors[1]))
            self.assert_boxed(heap, 2 * Fraction(factors[1]))

    def test_no_box(self):
        for heap in ((), [], (HALF_SQUARE,), FLAT_HEAP, SQUARE * 60):
            for width in (0, -1, "-1/7", -LONG):
                self.assert_no_box(boxed, heap, told(width))

    def test_too_wide_as_led_has_it(self):
        cases = ((SQUARE, 50), (SQUARE, "1/50"), (FLAT_HEAP, 1), (SQUARE * 61, 1), (TALL, "1/7"), (SKEW, "22/7"))
        for heap, width in cases:
            box = box_told(area_of(heap), width)
            refused = self.refusal(boxed, heap, told(width))
            self.assertIs(type(refused), TooWide)
            self.assertEqual((refused.lines, refused.cells), width_of(heap, box))
            other = self.refusal(led, heap, box)
            self.assertEqual((refused.lines, refused.cells), (other.lines, other.cells))

    def test_what_is_handed_in_stays(self):
        heap = [HALF_SQUARE, HALF_SQUARE]
        cutting = boxed(heap, (1, 2))
        self.assertEqual(heap, [HALF_SQUARE] * 2)
        kept = repr(cutting)
        heap.pop()
        self.assertEqual(repr(cutting), kept)
        self.assertIs(leads(boxed([HALF_SQUARE] * 2, (1, 2)), [HALF_SQUARE] * 2, box_told(1, "1/2")), True)


if __name__ == "__main__":
    unittest.main()
