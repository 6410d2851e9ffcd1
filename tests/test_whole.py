"""The whole: [1], [5] and [27], over all that the program holds."""

import itertools
import pkgutil
import unittest
from fractions import Fraction

import scissorhall
from kinds import CORNER, CUBE_OF_FIVE, CUBE_OF_SIX, HALF_SQUARE, SQUARE, SQUARE_OTHERWISE, added_sums, heap_of
from kinds import moved_by, spot
from scissorhall.boxed import boxed, long_box
from scissorhall.cuts import cut
from scissorhall.cuttings import back, behind, comes_of, goes_to, leads
from scissorhall.errors import OtherSum
from scissorhall.heaps import same, size
from scissorhall.leading import led, pushed
from scissorhall.solids import box, prism, pyramid, walked
from scissorhall.sums import edge_sums, side_sums, wall_sums
from scissorhall.texts import read_cutting, read_heap, shown_cutting, shown_heap
from scissorhall.turns import never, turn_sum

# All that the interface names, file by file.
INTERFACE = {
    "lowest": "divisor fraction plus minus times divided shared ranked",
    "points": "point measures added lessened turned amid side",
    "simplexes": "simplex",
    "heaps": "size same count_at",
    "cuts": "blade height cut",
    "moves": "move moved_point moved after undone",
    "cuttings": "comes_of goes_to back leads behind",
    "folds": "steps layers",
    "leading": "led pushed",
    "boxed": "long_box boxed",
    "sums": "side_sums wall_sums edge_sums",
    "solids": "walked prism pyramid box",
    "turns": "turn_sum never",
    "texts": "shown_number read_number shown_point shown_heap shown_cutting read_point read_heap read_cutting",
    "desk": "Desk",
    "errors": "HallError",
}


def triangle(*corners):
    return heap_of([[spot(*corner) for corner in corners]])


def slanted_prisms():
    """Prisms and boxes of the volume 1."""
    return (
        prism((HALF_SQUARE,), spot(0, 0, 2)),
        prism((HALF_SQUARE,), spot(1, 0, -2)),
        prism(SQUARE, spot(0, 1, -1)),
        box(spot(0, 0, 0), (spot(1, 0, 0), spot(0, 1, 0), spot(0, 0, 1))),
        box(spot(5, "1/2", 0), (spot(1, 0, 0), spot(-1, 1, 0), spot(0, -1, 1))),
        prism((HALF_SQUARE,), spot(-1, 1, 2)),
    )


class Interface(unittest.TestCase):
    def test_all_is_there(self):
        for name, words in INTERFACE.items():
            module = __import__(f"scissorhall.{name}", fromlist=["all"])
            for word in words.split():
                self.assertTrue(callable(getattr(module, word)), (name, word))

    def test_no_file_is_missing(self):
        files = {module.name for module in pkgutil.iter_modules(scissorhall.__path__)}
        self.assertLessEqual(set(INTERFACE), files)


class Prisms(unittest.TestCase):
    def test_prisms_are_led_to_prisms_of_their_volume(self):
        for one, other in itertools.product(slanted_prisms(), repeat=2):
            self.assertEqual((edge_sums(one), turn_sum(one)), ((), ()))
            self.assertIs(leads(led(one, other), one, other), True)
            self.assertIsNone(never(one, other))

    def test_by_pushes_just_where_the_walls_agree(self):
        for one, other in itertools.combinations(slanted_prisms(), 2):
            if wall_sums(one) == wall_sums(other):
                self.assertIs(leads(pushed(one, other), one, other, True), True)
            else:
                self.assertRaises(OtherSum, pushed, one, other)

    def test_a_pyramid_is_no_prism(self):
        body = pyramid(SQUARE, spot(0, 0, 3))
        cube = prism(SQUARE, spot(0, 0, 1))
        self.assertEqual(size(body), size(cube))
        self.assertRaises(OtherSum, led, body, cube)
        # Three such pyramids make up a cube, so that a sum by turns hinders nothing.
        self.assertIs(same(walked([spot(0, 0), spot(1, 0), spot(1, 1), spot(0, 1)]), SQUARE), True)
        self.assertIsNone(never(pyramid(SQUARE, spot(0, 0, 1)) * 3, cube))
        self.assertEqual(never((CORNER,) * 6, cube), (2, 3))


class Sums(unittest.TestCase):
    def assert_sums(self, cutting, one, other, functions):
        for function in functions:
            self.assertEqual(function(comes_of(cutting)), function(one))
            self.assertEqual(function(goes_to(cutting)), function(other))
            self.assertEqual(function(comes_of(cutting)), function(goes_to(cutting)))

    def test_of_what_is_cut_and_pushed(self):
        pairs = (
            (SQUARE, long_box((1, 1), (1, 2))),
            (SQUARE_OTHERWISE + (HALF_SQUARE,), (HALF_SQUARE,) + long_box((1, 1), (2, 1))),
            (walked([spot(0, 0), spot(3, 0), spot(4, 1), spot(1, 1)]), long_box((3, 1), (1, 1))),
        )
        for one, other in pairs:
            self.assert_sums(pushed(one, other), one, other, (side_sums,))
        pairs = ((CUBE_OF_SIX, CUBE_OF_FIVE), (slanted_prisms()[3], slanted_prisms()[4]))
        for one, other in pairs:
            self.assert_sums(pushed(one, other), one, other, (wall_sums, edge_sums, turn_sum))

    def test_of_what_is_cut_and_led(self):
        for one, other in itertools.combinations(slanted_prisms(), 2):
            self.assert_sums(led(one, other), one, other, (edge_sums, turn_sum))
        one, other = (CORNER,) + CUBE_OF_SIX, moved_by((CORNER,), -1, spot(1, 2, 3)) + slanted_prisms()[4]
        self.assert_sums(led(one, other), one, other, (edge_sums, turn_sum))

    def test_of_what_is_cut_by_a_blade(self):
        for heap in slanted_prisms() + ((CORNER,), pyramid(SQUARE, spot(1, 2, 3))):
            front, rest = cut(heap, (2, 1, -1, 0))
            for function in (wall_sums, edge_sums, turn_sum):
                self.assertEqual(added_sums(function(front), function(rest)), function(heap))


class Cuttings(unittest.TestCase):
    def test_from_one_to_the_last_and_back(self):
        heaps = (
            triangle((0, 0), (2, 0), (0, 2)), SQUARE * 2, long_box((2, 1), (1, 2)), triangle((0, 0), (4, 0), (3, 1)),
        )
        whole = ()
        for one, other in zip(heaps, heaps[1:]):
            step = led(one, other)
            self.assertIs(leads(step, one, other), True)
            whole = behind(whole, step) if whole else step
        self.assertIs(leads(whole, heaps[0], heaps[-1]), True)
        self.assertIs(leads(back(whole), heaps[-1], heaps[0]), True)

    def test_pushed_behind_boxed(self):
        heap = triangle((0, 0), (3, 0), (1, 2))
        first = boxed(heap, (1, 1))
        second = pushed(long_box((3, 1), (1, 1)), long_box((3, 1), (3, 1)))
        self.assertIs(leads(behind(first, second), heap, long_box((3, 1), (3, 1))), True)

    def test_written_and_read(self):
        for one, other in ((SQUARE * 2, triangle((0, 0), (4, 0), (3, 1))), slanted_prisms()[:2]):
            cutting = led(one, other)
            self.assertEqual(read_cutting(shown_cutting(cutting)), cutting)
            self.assertEqual(read_heap(shown_heap(one)), one)

    def test_walked_led_to_a_box(self):
        ring = [spot(0, 0), spot(2, 0), spot(2, 1), spot(1, 1), spot(1, 2), spot(0, 2)]
        heap = walked(ring)
        self.assertEqual(Fraction(*size(heap)), 3)
        self.assertIs(leads(boxed(heap, (1, 1)), heap, long_box((3, 1), (1, 1))), True)


if __name__ == "__main__":
    unittest.main()
