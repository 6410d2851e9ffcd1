"""What led and pushed rest on: floors, their regions, and layers over them."""

import itertools
import unittest

from kinds import CORNER, CUBE_OF_FIVE, HALF_SQUARE, SQUARE, bar, content, spot, stand
from scissorhall.floors import Floor, Folded
from scissorhall.leading import led


def squares_lines():
    return [(0, 1), (1, -1), (1, 0), (1, 1)]


def cubes_lines():
    return [(0, 0, 1), (0, 1, 0), (1, 0, 0), (1, 1, 1)]


class Floors(unittest.TestCase):
    def test_number_of_regions(self):
        self.assertEqual(len(Floor([(0, 1), (1, 0)], False).spots), 1)
        self.assertEqual(len(Floor(squares_lines(), False).spots), 4)
        # The half of the square has the lowest triangle whole and the halves of two others.
        self.assertEqual(len(Floor(squares_lines(), True).spots), 3)
        self.assertEqual(len(Floor([(1, -3)], False).spots), 4)
        self.assertEqual(len(Floor(cubes_lines(), False).spots), 3)
        self.assertEqual(len(Floor(cubes_lines(), True).spots), 3)

    def test_each_region_has_a_spot_of_its_own_sides(self):
        for ways, halved in itertools.product(([(1, 3), (2, -1), (5, 2)], [(1, 1, 2), (1, -2, 0)]), (False, True)):
            floor = Floor(ways, halved)
            sides = set()
            for p in floor.spots:
                heights = [sum(a * x for a, x in zip(line, p)) for line in floor.lines]
                self.assertNotIn(0, heights)
                sides.add(tuple(one > 0 for one in heights))
                self.assertTrue(all(0 < 2 * x < wide * p[-1] for x, wide in zip(p, floor.spread)))
            self.assertEqual(len(sides), len(floor.spots))

    def test_counted(self):
        floor = Floor([(7, 11), (12, -5), (1, 3), (2, 1)], False)
        self.assertGreater(len(floor.spots), 64)
        for k in range(1, 50):
            regions = floor.everything * (k * k + 3) // 101 & floor.everything
            self.assertEqual(floor.counted(regions), bin(regions).count("1"))
        self.assertEqual(floor.counted(floor.everything), len(floor.spots))
        self.assertEqual(floor.counted(0), 0)


class Layers(unittest.TestCase):
    def test_each_layer_has_the_points_of_the_simplex(self):
        for piece, ways in ((HALF_SQUARE, squares_lines()), (CORNER, cubes_lines())):
            for halved in (False, True):
                floor = Floor(ways, halved)
                body = Folded(piece[0], piece, floor, (1, -1) if halved else (1,))
                for layer in body.layers:
                    for k, p in enumerate(floor.spots):
                        numbers = [a * p[-1] + layer.way * x for a, x in zip(layer.arrow, p)]
                        there = spot(*[f"{number}/{p[-1]}" for number in numbers])
                        self.assertEqual(stand(piece, there) == 1, bool(layer.regions >> k & 1))

    def test_what_fits_whole_is_moved_whole(self):
        self.assertEqual(len(led(SQUARE * 3, SQUARE[::-1] * 3)), 6)
        self.assertEqual(len(led(CUBE_OF_FIVE, CUBE_OF_FIVE[::-1])), 5)
        # Cut where it must be, and not at each border of a cell: there are sixty of them.
        self.assertLess(len(led(bar(0, 0, 6, 10), bar(0, 0, 12, 5))), 30)
        told = led((HALF_SQUARE,), (SQUARE[1],))
        self.assertEqual([content(piece) for piece, move in told], [content(HALF_SQUARE)])


if __name__ == "__main__":
    unittest.main()
