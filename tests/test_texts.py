"""Texts: [38] to [40], and of [2] to [4] what holds for them."""

import itertools
import unittest
from fractions import Fraction

from kinds import CORNER, CUBE_OF_FIVE, CUBE_OF_SIX, FLAT_HEAP, HALF_SQUARE, SPACE_HEAP, SQUARE, arguments, heap_of
from kinds import is_plain, made, spot, worths
from scissorhall.errors import Flat, HallError, NoText, TooGreat
from scissorhall.leading import led
from scissorhall.texts import read_cutting, read_heap, read_number, read_point
from scissorhall.texts import shown_cutting, shown_heap, shown_number, shown_point

SIXTY = 10 ** 60 - 1
MORE = 10 ** 60
# All that a number is not; none of it holds a blank or a comma alone.
BAD_NUMBERS = (
    "", "-", "--1", "+1", "-+1", "1-", "1-1", "1.5", "1e3", "a", "0x1", "1_0", "/", "1/", "/1", "-/1", "1//2", "1/2/3",
    "1/-2", "-1/-2", "1/+2", "1/0", "0/0", "-1/00", "1/000", "1\t", "1" * 61, "-" + "0" * 61, "1/" + "1" * 61,
    "1/" + "0" * 60 + "1", "~", "1/a", "none",
)
FLAT_MOVES = ((1, spot(0, 0)), (-1, spot("1/2", -3)), (1, spot(SIXTY, Fraction(1, SIXTY))))
SPACE_MOVES = ((1, spot(0, 0, 0)), (-1, spot("1/2", -3, 7)), (1, spot(SIXTY, Fraction(1, SIXTY), 0)))


def told(worth):
    worth = Fraction(worth)
    return (worth.numerator, worth.denominator)


def numeral(worth):
    worth = Fraction(worth)
    return f"{worth.numerator}" if worth.denominator == 1 else f"{worth.numerator}/{worth.denominator}"


def point_text(p):
    return " ".join(numeral(x) for x in worths(p))


def simplex_text(piece):
    return ", ".join(point_text(p) for p in piece)


def heap_text(heap):
    return " + ".join(simplex_text(piece) for piece in heap) or "none"


def cutting_text(cutting):
    rows = []
    for piece, (way, arrow) in cutting:
        rows.append(f"{simplex_text(piece)} by {'push' if way == 1 else 'turn'} {point_text(arrow)}")
    return " + ".join(rows) or "none"


def rows_of(heap):
    moves = FLAT_MOVES if len(heap[0]) == 3 else SPACE_MOVES
    return tuple(zip(heap, itertools.cycle(moves)))


class TextCase(unittest.TestCase):
    def assert_refused(self, kind, function, *handed):
        with self.assertRaises(HallError, msg=handed) as caught:
            function(*handed)
        self.assertIs(type(caught.exception), kind, handed)


class Interface(unittest.TestCase):
    def test_arguments(self):
        self.assertEqual(arguments(shown_number), ["number"])
        self.assertEqual(arguments(shown_point), ["p"])
        self.assertEqual(arguments(shown_heap), ["heap"])
        self.assertEqual(arguments(shown_cutting), ["cutting"])
        for function in (read_number, read_point, read_heap, read_cutting):
            self.assertEqual(arguments(function), ["line"])


class Numbers(TextCase):
    def test_shown(self):
        rows = (
            ((0, 1), "0"), ((1, 1), "1"), ((-1, 1), "-1"), ((3, 2), "3/2"), ((-3, 2), "-3/2"), ((1, 1000), "1/1000"),
            ((-120, 7), "-120/7"), ((SIXTY, 1), "9" * 60), ((-SIXTY, 2), "-" + "9" * 60 + "/2"),
            ((1, SIXTY), "1/" + "9" * 60), ((-SIXTY, SIXTY - 1), "-" + "9" * 60 + "/" + "9" * 59 + "8"),
        )
        for number, text in rows:
            self.assertEqual(shown_number(number), text)
            self.assertEqual(read_number(text), number)

    def test_too_great(self):
        numbers = ((MORE, 1), (-MORE, 1), (1, MORE), (-1, MORE), (MORE + 1, MORE), (MORE, 7), (7, MORE), (10 ** 129, 1))
        for number in numbers + ((10 ** 5000, 1), (-1, 10 ** 5000)):
            with self.assertRaises(HallError) as caught:
                shown_number(number)
            self.assertIs(type(caught.exception), TooGreat)

    def test_read_in_other_terms(self):
        rows = (
            ("0012", (12, 1)), ("-0", (0, 1)), ("6/4", (3, 2)), ("-6/4", (-3, 2)), ("0/5", (0, 1)), ("-0/7", (0, 1)),
            ("8/2", (4, 1)), ("008/006", (4, 3)), ("0" * 60, (0, 1)), ("0" * 59 + "1", (1, 1)),
            ("1/" + "0" * 59 + "2", (1, 2)),
            ("9" * 60, (SIXTY, 1)), ("-" + "9" * 60 + "/" + "9" * 60, (-1, 1)), ("00/01", (0, 1)),
        )
        for text, number in rows:
            self.assertEqual(read_number(text), number)
            self.assertTrue(is_plain(read_number(text)))

    def test_no_text(self):
        for text in BAD_NUMBERS + (" ", "1 2", " 1", "1 ", "- 1", "1 /2", "1/ 2", "1,", "1, 2"):
            self.assert_refused(NoText, read_number, text)


class Points(TextCase):
    def test_shown_and_read(self):
        rows = (
            ((0, 0, 1), "0 0"), ((1, 2, 4), "1/4 1/2"), ((-3, 4, 6), "-1/2 2/3"), ((0, 0, 0, 1), "0 0 0"),
            ((6, -3, 4, 12), "1/2 -1/4 1/3"), ((SIXTY, 1, 1), "9" * 60 + " 1"),
            ((1, -SIXTY, 0, SIXTY), "1/" + "9" * 60 + " -1 0"),
        )
        for p, text in rows:
            self.assertEqual(shown_point(p), text)
            self.assertEqual(read_point(text), p)
        self.assertEqual(read_point("006/4 -0"), (3, 0, 2))
        self.assertEqual(read_point("1/2 1/3 1/6"), (3, 2, 1, 6))

    def test_great_bottoms_that_part(self):
        # Each measure is short by itself, though the point's own numbers are long.
        p = spot(Fraction(1, SIXTY), Fraction(1, SIXTY - 1), Fraction(1, SIXTY - 2))
        self.assertGreater(p[-1], MORE)
        self.assertEqual(read_point(shown_point(p)), p)

    def test_too_great(self):
        for worth in (MORE, -MORE, Fraction(1, MORE), Fraction(MORE + 1, 3)):
            for row in ((worth, 0), (0, worth), (worth, 0, 0), (0, worth, 0), (0, 0, worth), (1, worth, worth)):
                self.assert_refused(TooGreat, shown_point, spot(*row))

    def test_no_text(self):
        for text in (
            "", " ", "1", "1 2 3 4", "1  2", " 1 2", "1 2 ", "1 2 3 ", "1, 2", "1,2", "1 2, 3", "none", "1\t2",
        ):
            self.assert_refused(NoText, read_point, text)
        for bad in BAD_NUMBERS:
            for text in (f"{bad} 1", f"1 {bad}", f"1 2 {bad}", f"{bad} 0 0"):
                self.assert_refused(NoText, read_point, text)


class Heaps(TextCase):
    def test_shown_and_read(self):
        heaps = (
            (), (HALF_SQUARE,), SQUARE, SQUARE * 3, FLAT_HEAP, FLAT_HEAP[::-1], (CORNER,), CUBE_OF_FIVE, CUBE_OF_SIX,
            SPACE_HEAP,
            heap_of([(spot(SIXTY, 0), spot(0, 1), spot(Fraction(-1, SIXTY), 0))]),
        )
        for heap in heaps:
            for handed in (list(heap), tuple(heap)):
                self.assertEqual(shown_heap(handed), heap_text(heap))
            self.assertEqual(read_heap(heap_text(heap)), heap)
            self.assertTrue(is_plain(read_heap(heap_text(heap))))
        self.assertEqual(shown_heap(SQUARE), "0 0, 1 0, 0 1 + 0 1, 1 0, 1 1")
        self.assertEqual(shown_heap(()), "none")
        self.assertEqual(read_heap("none"), ())

    def test_corners_in_any_order(self):
        for piece in (HALF_SQUARE, FLAT_HEAP[1], CORNER, SPACE_HEAP[1]):
            for order in itertools.permutations(piece):
                self.assertEqual(read_heap(simplex_text(order)), (made(piece),))
                self.assertEqual(read_heap(simplex_text(order) + " + " + simplex_text(piece)), (made(piece),) * 2)

    def test_numbers_in_other_terms(self):
        self.assertEqual(read_heap("0/4 -0, 2/2 00, 0 005/5"), (HALF_SQUARE,))

    def test_too_great(self):
        for worth in (MORE, Fraction(1, MORE)):
            flat = made((spot(0, worth), spot(1, 0), spot(5, 7)))
            body = made((spot(0, 0, worth), spot(1, 0, 0), spot(5, 7, 0), spot(1, 2, 3)))
            for heap in ((flat,), (HALF_SQUARE, flat), (flat, HALF_SQUARE), (body,), (CORNER, body, CORNER)):
                self.assert_refused(TooGreat, shown_heap, heap)
                self.assert_refused(TooGreat, shown_heap, list(heap))

    def test_no_text(self):
        good, body = heap_text(SQUARE), heap_text((CORNER,))
        texts = [
            "", " ", "None", "none ", " none", "none + none", good + " + none", "none + " + good, good + " +",
            good + " + ",
            "+ " + good, " + " + good, good + " + + " + good, good + "+" + good, good + " +  " + good,
            good + "  + " + good,
            " " + good, good + " ", good + ",", good + ", ", ", " + good, good.replace(", ", ","),
            good.replace(", ", " , "),
            good.replace(", ", ",  "), good + " + " + body, body + " + " + good, "0 0", "0 0, 1 0",
            "0 0, 1 0, 0 1, 5 7",
            "0 0 0, 1 0 0, 0 1 0", "0 0 0, 1 0 0, 0 1 0, 0 0 1, 1 2 3", "0 0, 1 0, 0 1 0", "0 0 0, 1 0, 0 1",
            "0 0 0, 1 0 0, 0 1 0, 0 1", "0, 1, 2", "0 0 0 0, 1 0 0 0, 0 1 0 0, 0 0 1 0", "0 0, 1 0, 0 1 by push 0 0",
        ]
        for text in texts:
            self.assert_refused(NoText, read_heap, text)
        for bad in BAD_NUMBERS:
            for place in range(6):
                numbers = ["0", "0", "1", "0", "0", "1"]
                numbers[place] = bad
                text = "{} {}, {} {}, {} {}".format(*numbers)
                self.assert_refused(NoText, read_heap, text)
                self.assert_refused(NoText, read_heap, good + " + " + text)

    def test_flat(self):
        rows = (
            "0 0, 1 1, 2 2", "0 0, 0 0, 1 0", "1 2, 1 2, 1 2", "0 0 0, 1 0 0, 0 1 0, 5 7 0", "1/2 1/3, 2/4 2/6, 0 1",
        )
        for text in rows:
            self.assert_refused(Flat, read_heap, text)
            self.assert_refused(Flat, read_heap, text + " + " + text)
        self.assert_refused(Flat, read_heap, "0 0, 1 0, 0 1 + 0 0, 1 1, 2 2")
        self.assert_refused(Flat, read_heap, "0 0, 1 1, 2 2 + 0 0, 1 0, 0 1")

    def test_no_text_ahead_of_flat(self):
        flat = "0 0, 1 1, 2 2"
        for text in (
            flat + " + ", flat + " + 0 0, 1 0", flat + " + x", "0 0, 1 0, 1/0 2 + " + flat,
            flat + " + " + heap_text((CORNER,)),
        ):
            self.assert_refused(NoText, read_heap, text)


class Cuttings(TextCase):
    def test_shown_and_read(self):
        heaps = ((HALF_SQUARE,), SQUARE * 2, FLAT_HEAP, (CORNER,), CUBE_OF_FIVE, SPACE_HEAP)
        cuttings = [rows_of(heap) for heap in heaps]
        cuttings += [(), led(SQUARE, SQUARE[::-1]), led((HALF_SQUARE,) * 2, SQUARE)]
        for cutting in cuttings:
            for handed in (list(cutting), tuple(cutting)):
                self.assertEqual(shown_cutting(handed), cutting_text(cutting))
            self.assertEqual(read_cutting(cutting_text(cutting)), cutting)
            self.assertTrue(is_plain(read_cutting(cutting_text(cutting))))
        row = (HALF_SQUARE, (-1, spot("1/2", 1)))
        self.assertEqual(shown_cutting([row]), "0 0, 1 0, 0 1 by turn 1/2 1")
        self.assertEqual(shown_cutting([row, row]), "0 0, 1 0, 0 1 by turn 1/2 1 + 0 0, 1 0, 0 1 by turn 1/2 1")
        self.assertEqual(read_cutting("0 1, 1 0, 0 0 by push 6/4 -0"), ((HALF_SQUARE, (1, (3, 0, 2))),))

    def test_too_great(self):
        for worth in (MORE, Fraction(-1, MORE)):
            far = ((HALF_SQUARE, (1, spot(worth, 0))),)
            near = ((HALF_SQUARE, (-1, spot(0, 0))),)
            long = ((made((spot(0, worth), spot(1, 0), spot(5, 7))), (1, spot(0, 0))),)
            space = ((CORNER, (-1, spot(0, 0, worth))),)
            for cutting in (far, long, near + far, far + near, near + long, space):
                self.assert_refused(TooGreat, shown_cutting, cutting)

    def test_no_text(self):
        good, body = "0 0, 1 0, 0 1 by push 0 0", "0 0 0, 1 0 0, 0 1 0, 0 0 1 by turn 0 0 0"
        self.assertEqual(len(read_cutting(good)) + len(read_cutting(body)), 2)
        texts = [
            "", " ", "none ", "none + " + good, good + " + none", good + " + ", " + " + good, good + " + " + body,
            body + " + " + good, good + " ", " " + good, good + ",", "by push 0 0", " by push 0 0", "0 0, 1 0, 0 1",
            "0 0, 1 0, 0 1 by", "0 0, 1 0, 0 1 by ", "0 0, 1 0, 0 1 by push", "0 0, 1 0, 0 1 by push ",
            "0 0, 1 0, 0 1 push 0 0",
            "0 0, 1 0, 0 1 by pull 0 0", "0 0, 1 0, 0 1 by Push 0 0", "0 0, 1 0, 0 1 by  push 0 0",
            "0 0, 1 0, 0 1  by push 0 0",
            "0 0, 1 0, 0 1 by push  0 0", "0 0, 1 0, 0 1 by push 0", "0 0, 1 0, 0 1 by push 0 0 0",
            "0 0, 1 0, 0 1 by push 0, 0",
            "0 0, 1 0, 0 1 by push 1/0 0", "0 0, 1 0, 0 1 by 0 0", "0 0, 1 0, 0 1 by push 0 0 by push 0 0",
            "0 0, 1 0 by push 0 0", "0 0, 1 0, 0 1, 1 1 by push 0 0", "0 0 0, 1 0 0, 0 1 0, 0 0 1 by turn 0 0",
            "none by push 0 0", "0 0, 1 0, 0 1 by none", "0 0, 1 0, 0 1 bypush 0 0", "0 0, 1 0, 0 1 by turn push 0 0",
        ]
        for text in texts:
            self.assert_refused(NoText, read_cutting, text)
        for bad in BAD_NUMBERS:
            self.assert_refused(NoText, read_cutting, f"0 0, 1 0, 0 1 by push 0 {bad}")
            self.assert_refused(NoText, read_cutting, f"0 0, 1 {bad}, 0 1 by push 0 0")

    def test_flat_behind_no_text(self):
        flat = "0 0, 1 1, 2 2 by push 0 0"
        self.assert_refused(Flat, read_cutting, flat)
        self.assert_refused(Flat, read_cutting, "0 0, 1 0, 0 1 by push 0 0 + " + flat)
        self.assert_refused(Flat, read_cutting, "0 0 0, 1 0 0, 0 1 0, 5 7 0 by turn 0 0 0")
        texts = (
            flat + " + ", flat + " + x", "0 0, 1 1, 2 2 by push 0 0 0", "0 0, 1 1, 2 2 by pull 0 0",
            flat + " + 0 0 0, 1 0 0, 0 1 0, 0 0 1 by turn 0 0 0",
        )
        for text in texts:
            self.assert_refused(NoText, read_cutting, text)

    def test_what_is_handed_in_stays(self):
        for heap in (list(FLAT_HEAP), list(SPACE_HEAP)):
            kept, rows = list(heap), list(rows_of(heap))
            kept_rows = list(rows)
            shown_heap(heap), shown_cutting(rows)
            self.assertEqual((heap, rows), (kept, kept_rows))


if __name__ == "__main__":
    unittest.main()
