"""Cuttings: [16] and [17], and of [2] to [4] what holds for them."""

import itertools
import unittest
from fractions import Fraction

from kinds import CORNER, CUBE_OF_FIVE, CUBE_OF_SIX, FLAT_HEAP, HALF_SQUARE, OTHER_HALF, SPACE_HEAP, SQUARE
from kinds import SQUARE_OTHERWISE, arguments, bar, goes, heap_of, is_plain, is_point, is_simplex, made, point_of
from kinds import pushed_by, spot, stand, worths
from scissorhall.cuts import cut
from scissorhall.cuttings import back, behind, comes_of, goes_to, leads
from scissorhall.errors import HallError, NotSame
from scissorhall.heaps import same

LONG = 10 ** 39 + 7
TINY = Fraction(1, LONG)
FLAT_MOVES = (
    (1, spot(0, 0)),
    (-1, spot(1, 1)),
    (1, spot("5/2", "-1/3")),
    (-1, spot("-7/4", 3)),
    (1, spot(-LONG, TINY)),
)
SPACE_MOVES = (
    (1, spot(0, 0, 0)),
    (-1, spot(1, 1, 1)),
    (1, spot("5/2", "-1/3", 4)),
    (-1, spot("-7/4", 3, "1/5")),
    (1, spot(-LONG, TINY, 0)),
)


def moved_by(piece, one):
    return made([goes(p, one[0], one[1]) for p in piece])


def undone_by(one):
    return (one[0], point_of([-one[0] * x for x in worths(one[1])]))


def after_both(first, second):
    return (first[0] * second[0], goes(first[1], second[0], second[1]))


def some_moves(heap):
    return FLAT_MOVES if len(heap[0]) == 3 else SPACE_MOVES


def rows_from(heap, start=0):
    """A cutting of the heap by some moves one after another."""
    return tuple(zip(heap, itertools.islice(itertools.cycle(some_moves(heap)), start, None)))


def rows_onto(heap, start=0):
    """A cutting that goes to the heap, by some moves one after another."""
    return tuple((moved_by(piece, one), undone_by(one)) for piece, one in rows_from(heap, start))


def cut_up(heap, lines):
    for line in lines:
        heap = sum(cut(heap, line), ())
    return heap


class Interface(unittest.TestCase):
    def test_arguments_and_defaults(self):
        for function in (comes_of, goes_to, back):
            self.assertEqual(arguments(function), ["cutting"])
        self.assertEqual(arguments(leads), ["cutting", "one", "other", ("pushes", False)])
        self.assertEqual(arguments(behind), ["first", "second"])


class Ends(unittest.TestCase):
    def test_no_row(self):
        for cutting in ((), []):
            self.assertEqual(comes_of(cutting), ())
            self.assertEqual(goes_to(cutting), ())
            self.assertEqual(back(cutting), ())

    def test_one_row(self):
        row = (HALF_SQUARE, (-1, spot(1, 1)))
        for cutting in ((row,), [row]):
            self.assertEqual(comes_of(cutting), (HALF_SQUARE,))
            self.assertEqual(goes_to(cutting), (OTHER_HALF,))
            self.assertEqual(back(cutting), ((OTHER_HALF, (-1, spot(1, 1))),))
        row = (CORNER, (1, spot("1/2", 0, 0)))
        self.assertEqual(back([row]), ((moved_by(CORNER, row[1]), (1, spot("-1/2", 0, 0))),))

    def test_several_rows_in_their_order(self):
        for heap in (SQUARE, FLAT_HEAP, SPACE_HEAP, CUBE_OF_SIX):
            for start in range(3):
                rows = rows_from(heap, start)
                for cutting in (rows, list(rows), tuple(reversed(rows))):
                    self.assertEqual(comes_of(cutting), tuple(piece for piece, one in cutting))
                    self.assertEqual(goes_to(cutting), tuple(moved_by(piece, one) for piece, one in cutting))
                    expected = tuple((moved_by(piece, one), undone_by(one)) for piece, one in cutting)
                    self.assertEqual(back(cutting), expected)
                    self.assertTrue(is_plain((comes_of(cutting), goes_to(cutting), back(cutting))))

    def test_back_and_back_again(self):
        for heap in (FLAT_HEAP, SPACE_HEAP):
            cutting = rows_from(heap)
            self.assertEqual(back(back(cutting)), cutting)
            self.assertEqual(comes_of(back(cutting)), goes_to(cutting))
            self.assertEqual(goes_to(back(cutting)), comes_of(cutting))


class Leads(unittest.TestCase):
    def assert_leads(self, cutting, one, other, expected, *pushes):
        for kinds in itertools.product((list, tuple), repeat=3):
            handed = [kind(rows) for kind, rows in zip(kinds, (cutting, one, other))]
            self.assertIs(leads(*handed, *pushes), expected)

    def test_no_row(self):
        for pushes in ((), (False,), (True,)):
            self.assert_leads((), (), (), True, *pushes)
            for heap in (SQUARE, (CORNER,)):
                self.assert_leads((), heap, (), False, *pushes)
                self.assert_leads((), (), heap, False, *pushes)
                self.assert_leads((), heap, heap, False, *pushes)
                self.assert_leads(rows_from(heap), (), (), False, *pushes)

    def test_from_its_beginning_to_its_end(self):
        for heap in (SQUARE, FLAT_HEAP, SPACE_HEAP, CUBE_OF_FIVE):
            cutting = rows_from(heap)
            end = tuple(moved_by(piece, one) for piece, one in cutting)
            self.assert_leads(cutting, heap, end, True)
            self.assert_leads(cutting, heap, end, True, False)
            self.assert_leads(cutting, tuple(reversed(heap)), end[1:] + end[:1], True)
            self.assert_leads(back(cutting), end, heap, True)
            self.assert_leads(cutting, end, heap, False)

    def test_heaps_parted_otherwise(self):
        still = [(piece, (1, spot(0, 0))) for piece in SQUARE]
        self.assert_leads(still, SQUARE_OTHERWISE, SQUARE_OTHERWISE, True)
        self.assert_leads(still, SQUARE_OTHERWISE, SQUARE, True, True)
        self.assert_leads(still, SQUARE_OTHERWISE, pushed_by(SQUARE, spot(1, 0)), False)
        cubes = [(piece, (1, spot(0, 0, "1/2"))) for piece in CUBE_OF_FIVE]
        self.assert_leads(cubes, CUBE_OF_SIX, pushed_by(CUBE_OF_SIX, spot(0, 0, "1/2")), True, True)
        self.assert_leads(cubes, CUBE_OF_SIX, CUBE_OF_SIX, False, True)

    def test_one_missing_or_too_many(self):
        for heap in (SQUARE, SPACE_HEAP):
            cutting = rows_from(heap)
            end = tuple(moved_by(piece, one) for piece, one in cutting)
            for k in range(len(heap)):
                self.assert_leads(cutting, heap[:k] + heap[k + 1:], end, False)
                self.assert_leads(cutting, heap, end[:k] + end[k + 1:], False)
                self.assert_leads(cutting, heap + heap[k:k + 1], end, False)
                self.assert_leads(cutting, heap, end + end[k:k + 1], False)
                self.assert_leads(cutting[:k] + cutting[k + 1:], heap, end, False)
                self.assert_leads(cutting + cutting[k:k + 1], heap, end, False)

    def test_another_move(self):
        for heap in (SQUARE, CUBE_OF_FIVE):
            cutting = rows_from(heap)
            end = tuple(moved_by(piece, one) for piece, one in cutting)
            for k in range(len(heap)):
                other = (cutting[k][0], some_moves(heap)[(k + 1) % 5])
                self.assert_leads(cutting[:k] + (other,) + cutting[k + 1:], heap, end, False)

    def test_pushes_asked_for(self):
        turn = [(HALF_SQUARE, (-1, spot(1, 1))), (OTHER_HALF, (-1, spot(1, 1)))]
        self.assert_leads(turn, SQUARE, SQUARE, True)
        self.assert_leads(turn, SQUARE, SQUARE, True, False)
        self.assert_leads(turn, SQUARE, SQUARE, False, True)
        one_turn = [(HALF_SQUARE, (-1, spot(1, 1))), (OTHER_HALF, (1, spot(1, 0)))]
        end = (OTHER_HALF,) + pushed_by([OTHER_HALF], spot(1, 0))
        for rows in (one_turn, one_turn[::-1]):
            self.assert_leads(rows, SQUARE, end, True, False)
            self.assert_leads(rows, SQUARE, end, False, True)
        push = [(piece, (1, spot(1, 0))) for piece in SQUARE]
        for pushes in ((), (False,), (True,)):
            self.assert_leads(push, SQUARE, pushed_by(SQUARE, spot(1, 0)), True, *pushes)
            self.assert_leads(push, SQUARE, SQUARE, False, *pushes)


class BehindCase(unittest.TestCase):
    def assert_behind(self, first, second):
        """All that [17] tells; the answer, for what a test asks further."""
        told = behind(list(first), tuple(second))
        self.assertIs(type(told), tuple)
        self.assertTrue(is_plain(told))
        for piece, one in told:
            self.assertTrue(is_simplex(piece), piece)
            self.assertTrue(one[0] in (1, -1) and is_point(one[1]), one)
            self.assert_row(piece, one, first, second)
        end = tuple(moved_by(piece, one) for piece, one in second)
        self.assertIs(leads(told, tuple(piece for piece, one in first), end), True)
        self.assertIs(leads(behind(tuple(first), list(second)), [piece for piece, one in first], end), True)
        return told

    def assert_row(self, piece, one, first, second):
        for home, start in first:
            if all(stand(home, p) >= 0 for p in piece):
                if one in [after_both(start, further) for other, further in second]:
                    return
        self.fail((piece, one))

    def assert_not_same(self, first, second):
        for kinds in itertools.product((list, tuple), repeat=2):
            with self.assertRaises(HallError) as caught:
                behind(kinds[0](first), kinds[1](second))
            self.assertIs(type(caught.exception), NotSame)


class Behind(BehindCase):
    def test_no_row(self):
        for first, second in itertools.product(((), []), repeat=2):
            self.assertEqual(behind(first, second), ())

    def test_one_row_each(self):
        push, turn = (1, spot(2, "1/2")), (-1, spot(5, 0))
        for first, second in itertools.product((push, turn), repeat=2):
            told = self.assert_behind([(HALF_SQUARE, first)], [(moved_by(HALF_SQUARE, first), second)])
            self.assertEqual(told, ((HALF_SQUARE, after_both(first, second)),))
        push, turn = (1, spot(2, "1/2", 0)), (-1, spot(5, 0, 1))
        for first, second in itertools.product((push, turn), repeat=2):
            told = self.assert_behind([(CORNER, first)], [(moved_by(CORNER, first), second)])
            self.assertEqual(told, ((CORNER, after_both(first, second)),))

    def test_the_square_by_either_diagonal(self):
        for i, k in itertools.product(range(5), repeat=2):
            told = self.assert_behind(rows_onto(SQUARE, i), rows_from(SQUARE_OTHERWISE, k))
            self.assertEqual(len(told), 4)

    def test_the_cube_of_six_and_of_five(self):
        for i in range(2):
            self.assert_behind(rows_onto(CUBE_OF_SIX, i), rows_from(CUBE_OF_FIVE, i + 1))
            self.assert_behind(rows_onto(CUBE_OF_FIVE, i), rows_from(CUBE_OF_SIX, i + 3))

    def test_pushes_alone_stay_pushes(self):
        first = tuple((piece, (1, spot(1, 0))) for piece in SQUARE)
        second = tuple((piece, (1, spot(k, 2))) for k, piece in enumerate(pushed_by(SQUARE_OTHERWISE, spot(1, 0))))
        told = self.assert_behind(first, second)
        end = tuple(moved_by(piece, one) for piece, one in second)
        self.assertIs(leads(told, SQUARE, end, True), True)

    def test_heaps_cut_up_otherwise(self):
        lines = ((3, -1, -1), (1, 2, -1), (-2, 5, -1), (7, 1, -3))
        for heap in (SQUARE, FLAT_HEAP):
            one, other = cut_up(heap, lines[:2]), cut_up(heap, lines[2:])
            self.assert_behind(rows_onto(one), rows_from(other, 1))
            self.assert_behind(rows_onto(other, 3), rows_from(one, 2))

    def test_heaps_in_space_cut_up_otherwise(self):
        lines = ((3, -1, 1, -1), (1, 2, -1, -1), (-2, 5, 3, -2))
        for heap in (CUBE_OF_FIVE, SPACE_HEAP):
            one, other = cut_up(heap, lines[:1]), cut_up(heap, lines[1:2])
            self.assert_behind(rows_onto(one), rows_from(other, 1))

    def test_pieces_over_one_another(self):
        # Both halves of a square come to lie on one place, and go on in two layers parted otherwise.
        first = ((HALF_SQUARE, (1, spot(0, 0))), (OTHER_HALF, (-1, spot(1, 1))))
        middle = cut_up((HALF_SQUARE,), [(-2, 0, 1)]) + cut_up((HALF_SQUARE,), [(0, -3, 1)])
        for order in (middle, middle[::-1], middle[1:] + middle[:1]):
            for start in range(3):
                self.assert_behind(first, rows_from(order, start))

    def test_many_layers(self):
        halves = cut_up((HALF_SQUARE,), [(-1, 1, 0)])
        for heap in (halves * 6, tuple(sorted(halves * 6))):
            told = self.assert_behind(rows_onto((HALF_SQUARE,) * 6), rows_from(heap))
            self.assertEqual(len(told), 12)
        told = self.assert_behind(rows_onto((CORNER,) * 7), rows_from((CORNER,) * 7, 2))
        self.assertEqual(len(told), 7)

    def test_many_layers_in_another_order_stay_whole(self):
        rows = [(k % 5, k % 7, k % 11 - 5, k % 3 + 4, k % 6 + 3, 1 - k % 4) for k in range(40)]
        heap = heap_of([(spot(a, b), spot(a - c, b + d), spot(a + e, b + f)) for a, b, c, d, e, f in rows])
        other = tuple(heap[17 * k % 40] for k in range(40))
        self.assertEqual(len(behind(rows_onto(heap), rows_from(other))), 40)

    def test_layers_that_lie_over_one_another_in_part(self):
        wide = heap_of([(spot(0, 0), spot(3, 0), spot(0, 3))])
        low = pushed_by(wide, spot(1, 0))
        high = pushed_by(wide, spot("1/2", "1/2"))
        heap = wide + low + high + SQUARE + SQUARE_OTHERWISE
        for one in (heap, heap[::-1], heap[3:] + heap[:3]):
            other = cut_up(one, [(1, -2, 0), (2, 2, -3)])
            self.assert_behind(rows_onto(heap), rows_from(other))
            self.assert_behind(rows_onto(other), rows_from(heap, 2))

    def test_layers_in_space_that_lie_over_one_another_in_part(self):
        wide = heap_of([(spot(0, 0, 0), spot(2, 0, 0), spot(0, 2, 0), spot(0, 0, 2))])
        heap = CUBE_OF_FIVE + wide + pushed_by(wide, spot("1/2", 0, 0))
        other = cut_up(heap[::-1], [(0, 1, 2, -1)])
        self.assert_behind(rows_onto(heap), rows_from(other, 1))

    def test_layers_exchanged_where_they_cross(self):
        # Two bars laid crosswise, and the same counts as four arms and a middle that stands twice.
        crossed = bar(0, 1, 3, 2) + bar(1, 0, 2, 3)
        arms = bar(0, 1, 1, 2) + bar(2, 1, 3, 2) + bar(1, 0, 2, 1) + bar(1, 2, 2, 3) + bar(1, 1, 2, 2) * 2
        for one, other in ((crossed, arms), (arms, crossed), (crossed, crossed[::-1]), (arms[::-1], crossed)):
            self.assert_behind(rows_onto(one), rows_from(other, 1))

    def test_several_behind_one_another(self):
        first, second = rows_onto(SQUARE), rows_from(SQUARE_OTHERWISE, 1)
        end = cut_up(tuple(moved_by(piece, one) for piece, one in second), [(1, -3, 1)])
        third = rows_from(end, 2)
        one = self.assert_behind(behind(first, second), third)
        other = self.assert_behind(first, behind(second, third))
        self.assertIs(same(comes_of(one), comes_of(other)), True)
        self.assertIs(same(goes_to(one), goes_to(other)), True)

    def test_a_cutting_and_its_back(self):
        for heap in (FLAT_HEAP, SPACE_HEAP):
            cutting = rows_from(heap)
            told = self.assert_behind(cutting, back(cutting))
            self.assertIs(leads(told, heap, heap), True)

    def test_great_numbers(self):
        far = pushed_by(SQUARE, spot(LONG, TINY))
        otherwise = pushed_by(SQUARE_OTHERWISE, spot(LONG, TINY))
        self.assert_behind(rows_onto(far), rows_from(otherwise, 4))


class NoFit(BehindCase):
    def test_empty_and_not(self):
        for heap in (SQUARE, (CORNER,)):
            self.assert_not_same((), rows_from(heap))
            self.assert_not_same(rows_onto(heap), ())

    def test_a_row_left_out_or_twice(self):
        for heap, other in ((SQUARE, SQUARE_OTHERWISE), (CUBE_OF_SIX, CUBE_OF_FIVE), (FLAT_HEAP, FLAT_HEAP)):
            first, second = rows_onto(heap), rows_from(other)
            self.assertIs(leads(behind(first, second), comes_of(first), goes_to(second)), True)
            for k in range(len(heap)):
                self.assert_not_same(first[:k] + first[k + 1:], second)
                self.assert_not_same(first + first[k:k + 1], second)
            for k in range(len(other)):
                self.assert_not_same(first, second[:k] + second[k + 1:])
                self.assert_not_same(first, second + second[k:k + 1])

    def test_pushed_a_little(self):
        for heap, arrow in ((SQUARE, spot(0, TINY)), (CUBE_OF_FIVE, spot(TINY, 0, 0))):
            first, second = rows_onto(heap), rows_from(heap)
            for k in range(len(heap)):
                near = ((pushed_by([second[k][0]], arrow)[0], second[k][1]),)
                self.assert_not_same(first, second[:k] + near + second[k + 1:])
                one = (first[k][1][0], goes(first[k][1][1], 1, arrow))
                self.assert_not_same(first[:k] + ((first[k][0], one),) + first[k + 1:], second)

    def test_the_beginning_of_the_first_does_not_count(self):
        first = ((HALF_SQUARE, (1, spot(3, 3))),)
        self.assert_not_same(first, ((HALF_SQUARE, (1, spot(0, 0))),))


class WhatHoldsThroughout(unittest.TestCase):
    def test_what_is_handed_in_stays(self):
        for heap in (FLAT_HEAP, SPACE_HEAP):
            first, second = list(rows_onto(heap)), list(rows_from(heap, 1))
            one, other = list(comes_of(first)), list(goes_to(second))
            kept = [list(rows) for rows in (first, second, one, other)]
            comes_of(first), goes_to(first), back(first), behind(first, second), leads(first, one, other)
            self.assertRaises(NotSame, behind, first, second[1:])
            self.assertEqual([first, second, one, other], kept)

    def test_altering_the_lists_alters_no_answer(self):
        first, second = list(rows_onto(SQUARE)), list(rows_from(SQUARE_OTHERWISE))
        told = (comes_of(first), goes_to(first), back(first), behind(first, second))
        kept = repr(told)
        first.pop()
        second.reverse()
        second.append(second[0])
        self.assertEqual(repr(told), kept)
        self.assertEqual(goes_to(rows_onto(SQUARE)), told[1])
        self.assertRaises(NotSame, behind, first, second)
        self.assertIs(leads(first, told[0], told[1]), False)


if __name__ == "__main__":
    unittest.main()
