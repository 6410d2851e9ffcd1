"""Moves: [15], and of [2] to [4] what holds for them."""

import itertools
import unittest
from fractions import Fraction

from kinds import CORNER, CUBE_OF_SIX, FLAT_HEAP, HALF_SQUARE, SPACE_HEAP, SQUARE, amidst, arguments, goes, heap_of
from kinds import is_plain, is_point, is_simplex, point_of, spot, worths
from scissorhall.errors import HallError, NoMove
from scissorhall.heaps import same, size
from scissorhall.moves import after, move, moved, moved_point, undone

LONG = 10 ** 39 + 7
FLAT_SPOTS = [spot(0, 0), spot(1, -2), spot("1/2", "1/3"), spot("-7/6", 4), spot(LONG, f"-5/{LONG}")]
SPACE_SPOTS = [
    spot(0, 0, 0),
    spot(1, -2, 3),
    spot("1/2", "1/3", "-1/5"),
    spot("-7/6", 4, 0),
    spot(LONG, f"-5/{LONG}", 1),
]
KINDS = (FLAT_SPOTS, SPACE_SPOTS)


def moves_of(spots):
    return [(way, arrow) for way in (1, -1) for arrow in spots]


class Interface(unittest.TestCase):
    def test_arguments(self):
        self.assertEqual(arguments(move), ["way", "arrow"])
        self.assertEqual(arguments(moved_point), ["p", "move"])
        self.assertEqual(arguments(moved), ["heap", "move"])
        self.assertEqual(arguments(after), ["first", "second"])
        self.assertEqual(arguments(undone), ["move"])


class Making(unittest.TestCase):
    def test_pushes_and_turns(self):
        for way in (1, -1):
            for arrow in FLAT_SPOTS + SPACE_SPOTS:
                told = move(way, arrow)
                self.assertEqual(told, (way, arrow))
                self.assertTrue(is_plain(told))

    def test_each_other_way_is_refused(self):
        for way in (0, 2, -2, 3, 10 ** 20, -LONG, 10 ** 129):
            for arrow in (FLAT_SPOTS[2], SPACE_SPOTS[0]):
                with self.assertRaises(HallError) as caught:
                    move(way, arrow)
                self.assertIs(type(caught.exception), NoMove)


class MovedPoint(unittest.TestCase):
    def test_plain_examples(self):
        self.assertEqual(moved_point((1, 2, 1), (1, (3, -5, 1))), (4, -3, 1))
        self.assertEqual(moved_point((1, 2, 1), (-1, (3, -5, 1))), (2, -7, 1))
        self.assertEqual(moved_point((1, 0, 2), (1, (1, 1, 3))), (5, 2, 6))
        self.assertEqual(moved_point((1, 0, 2), (-1, (1, 1, 3))), (-1, 2, 6))
        self.assertEqual(moved_point((1, 0, 0, 2), (-1, (0, 1, -1, 3))), (-3, 2, -2, 6))
        self.assertEqual(moved_point((1, 2, 3, 2), (1, (1, 0, -1, 2))), (1, 1, 1, 1))

    def test_every_point_by_every_move(self):
        for spots in KINDS:
            for p in spots:
                for way, arrow in moves_of(spots):
                    told = moved_point(p, (way, arrow))
                    self.assertTrue(is_point(told), told)
                    self.assertEqual(told, goes(p, way, arrow))

    def test_half_the_arrow_stays_under_a_turn(self):
        for arrow in FLAT_SPOTS + SPACE_SPOTS:
            half = point_of([a / 2 for a in worths(arrow)])
            self.assertEqual(moved_point(half, (-1, arrow)), half)

    def test_under_a_turn_the_middle_is_half_the_arrow(self):
        for spots in KINDS:
            for p, arrow in itertools.product(spots, repeat=2):
                middle = amidst([p, moved_point(p, (-1, arrow))])
                self.assertEqual(worths(middle), [a / 2 for a in worths(arrow)])


class Moved(unittest.TestCase):
    def assert_moved(self, heap, turn):
        told = moved(list(heap), turn)
        self.assertEqual(moved(tuple(heap), turn), told)
        self.assertTrue(is_plain(told))
        expected = heap_of([[goes(p, turn[0], turn[1]) for p in piece] for piece in heap])
        self.assertEqual(told, expected)
        self.assertTrue(all(is_simplex(piece) for piece in told))
        self.assertEqual(size(told), size(heap))

    def test_the_empty_heap(self):
        for turn in moves_of(FLAT_SPOTS + SPACE_SPOTS):
            self.assertEqual(moved((), turn), ())
            self.assertEqual(moved([], turn), ())

    def test_heaps(self):
        for heap in ([HALF_SQUARE], SQUARE, FLAT_HEAP):
            for turn in moves_of(FLAT_SPOTS):
                self.assert_moved(heap, turn)
        for heap in ([CORNER], CUBE_OF_SIX, SPACE_HEAP):
            for turn in moves_of(SPACE_SPOTS):
                self.assert_moved(heap, turn)

    def test_plain_examples(self):
        self.assertEqual(moved([HALF_SQUARE], (-1, spot(1, 1))), (SQUARE[1],))
        self.assertEqual(
            moved([HALF_SQUARE], (1, spot("1/2", 0))), (((1, 0, 2), (3, 0, 2), (1, 2, 2)),)
        )

    def test_the_order_of_the_heap(self):
        turn = (-1, spot(1, 1))
        self.assertEqual(moved(SQUARE, turn), tuple(reversed(SQUARE)))
        self.assertIs(same(moved(CUBE_OF_SIX, (-1, spot(1, 1, 1))), CUBE_OF_SIX), True)

    def test_a_turn_in_space_makes_left_of_right(self):
        told = moved([CORNER], (-1, spot(0, 0, 0)))
        self.assertEqual(told, heap_of([[goes(p, -1, spot(0, 0, 0)) for p in CORNER]]))


class AfterAndUndone(unittest.TestCase):
    def assert_move(self, told):
        self.assertTrue(is_plain(told))
        self.assertEqual(len(told), 2)
        self.assertIn(told[0], (1, -1))
        self.assertTrue(is_point(told[1]), told)

    def test_plain_examples(self):
        push, turn = (1, spot(1, "1/2")), (-1, spot(3, 0))
        self.assertEqual(after(push, push), (1, spot(2, 1)))
        self.assertEqual(after(push, turn), (-1, spot(2, "-1/2")))
        self.assertEqual(after(turn, push), (-1, spot(4, "1/2")))
        self.assertEqual(after(turn, (-1, spot(1, 1))), (1, spot(-2, 1)))
        self.assertEqual(undone(push), (1, spot(-1, "-1/2")))
        self.assertEqual(undone(turn), turn)

    def test_after_takes_each_point_where_both_take_it(self):
        for spots in KINDS:
            for first, second in itertools.product(moves_of(spots), repeat=2):
                both = after(first, second)
                self.assert_move(both)
                for p in spots:
                    self.assertEqual(goes(p, both[0], both[1]), goes(goes(p, *first), *second))

    def test_undone_takes_each_point_back(self):
        for spots in KINDS:
            for one in moves_of(spots):
                home = undone(one)
                self.assert_move(home)
                for p in spots:
                    self.assertEqual(goes(goes(p, *one), *home), p)
                    self.assertEqual(goes(goes(p, *home), *one), p)

    def test_a_move_and_its_undone_one(self):
        for spots in KINDS:
            rest = (1, spot(*[0] * (len(spots[0]) - 1)))
            for one in moves_of(spots):
                self.assertEqual(after(one, undone(one)), rest)
                self.assertEqual(after(undone(one), one), rest)
                self.assertEqual(undone(undone(one)), one)
                self.assertEqual(after(one, rest), one)
                self.assertEqual(after(rest, one), one)

    def test_three_moves_whichever_two_are_taken_first(self):
        for spots in KINDS:
            for one, two, three in itertools.product(moves_of(spots[1:4]), repeat=3):
                self.assertEqual(after(after(one, two), three), after(one, after(two, three)))

    def test_heaps_moved_by_both(self):
        for heap, spots in ((FLAT_HEAP, FLAT_SPOTS), (SPACE_HEAP, SPACE_SPOTS)):
            for first, second in itertools.product(moves_of(spots[1:3]), repeat=2):
                self.assertEqual(moved(moved(heap, first), second), moved(heap, after(first, second)))
                self.assertEqual(moved(moved(heap, first), undone(first)), heap)


class WhatHoldsThroughout(unittest.TestCase):
    def test_what_is_handed_in_stays(self):
        for heap, arrow in ((FLAT_HEAP, FLAT_SPOTS[2]), (SPACE_HEAP, SPACE_SPOTS[2])):
            for way in (1, -1):
                handed = list(heap)
                moved(handed, (way, arrow))
                self.assertEqual(handed, list(heap))

    def test_altering_the_list_alters_no_answer(self):
        handed = list(SQUARE)
        told = moved(handed, (1, spot(Fraction(1, 2), 1)))
        kept = repr(told)
        handed.reverse()
        handed.pop()
        self.assertEqual(repr(told), kept)
        self.assertEqual(moved(SQUARE, (1, spot(Fraction(1, 2), 1))), told)


if __name__ == "__main__":
    unittest.main()
