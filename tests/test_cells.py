"""Convex cells, which the program keeps whole while they are cut."""

import itertools
import unittest

from kinds import CORNER, CUBE_OF_FIVE, CUBE_OF_SIX, FLAT_HEAP, HALF_SQUARE, SPACE_HEAP, SQUARE, is_simplex, spot
from scissorhall.cells import blades_about, cell_of, corners_of, half, simplexes_of, within, without
from scissorhall.cuts import height
from scissorhall.heaps import same

# Through inner points, through corners, along edges and walls, and beside the bodies.
FLAT_LINES = ((1, -1, 0), (2, 0, -1), (0, 3, -1), (1, 1, -1), (5, -3, -1), (1, 0, 0), (1, 2, 9), (-1, -1, 0))
SPACE_LINES = (
    (1, -1, 0, 0),
    (2, 0, 0, -1),
    (1, 1, 1, -1),
    (1, 1, -1, 0),
    (3, 2, 5, -4),
    (0, 0, 1, 0),
    (1, 0, 2, 9),
    (2, 2, 2, -3),
)
LINES = {3: FLAT_LINES, 4: SPACE_LINES}


def turned_over(line):
    return tuple(-number for number in line)


class Cells(unittest.TestCase):
    def assert_cell(self, cell):
        corners = corners_of(cell)
        self.assertEqual(len(corners), len(set(corners)))
        lines = blades_about(cell)
        self.assertEqual(len(lines), len(set(lines)))
        for line in lines:
            heights = [height(line, p) for p in corners]
            self.assertGreaterEqual(min(heights), 0)
            self.assertGreaterEqual(heights.count(0), len(line) - 1)
        if len(corners[0]) == 4:
            edges = sum(len(ring) for ring in cell)
            self.assertEqual(2 * len(corners) - edges + 2 * len(cell), 4)
        self.assertTrue(all(is_simplex(piece) for piece in simplexes_of(cell)))

    def halves(self, cell, line):
        found = []
        for one in (line, turned_over(line)):
            part = half(cell, one)
            if part:
                self.assert_cell(part)
                heights = [height(one, p) for p in corners_of(part)]
                self.assertTrue(min(heights) >= 0 and max(heights) > 0)
                found.append(part)
        return found

    def test_a_simplex_is_a_cell(self):
        for piece in FLAT_HEAP + SPACE_HEAP + SQUARE + CUBE_OF_FIVE:
            cell = cell_of(piece)
            self.assert_cell(cell)
            self.assertEqual(simplexes_of(cell), [piece])
            self.assertEqual(sorted(corners_of(cell)), sorted(piece))

    def test_cut_by_one_blade(self):
        self.assertEqual(simplexes_of(half(cell_of(HALF_SQUARE), (-2, -2, 1))), [
            ((0, 0, 1), (1, 0, 2), (0, 1, 2)),
        ])
        self.assertEqual(len(corners_of(half(cell_of(HALF_SQUARE), (2, 2, -1)))), 4)
        self.assertEqual(len(corners_of(half(cell_of(CORNER), (2, 2, 0, -1)))), 6)
        self.assertEqual(half(cell_of(CORNER), (1, 1, 1, -1)), [])
        self.assertEqual(half(cell_of(CORNER), (1, 1, 1, 0)), cell_of(CORNER))

    def test_cut_by_many_blades(self):
        for piece in FLAT_HEAP + SPACE_HEAP + SQUARE + CUBE_OF_FIVE + CUBE_OF_SIX:
            cells = [cell_of(piece)]
            for line in LINES[len(piece)]:
                cells = [part for cell in cells for part in self.halves(cell, line)]
            self.assertIs(same([part for cell in cells for part in simplexes_of(cell)], [piece]), True)

    def test_one_simplex_within_and_without_another(self):
        flat = FLAT_HEAP + SQUARE
        space = SPACE_HEAP + CUBE_OF_FIVE + (CORNER,)
        taken = [0, 0]
        for one, other in list(itertools.product(flat, repeat=2)) + list(itertools.product(space, repeat=2)):
            cell, lines = cell_of(one), blades_about(cell_of(other))
            inner, outer = within(cell, lines), without(cell, lines)
            parts = [piece for part in outer + ([inner] if inner else []) for piece in simplexes_of(part)]
            self.assertIs(same(parts, [one]), True)
            if inner:
                self.assert_cell(inner)
                corners = corners_of(inner)
                self.assertTrue(all(height(line, p) >= 0 for line in lines for p in corners))
            else:
                self.assertEqual(outer, [cell])
            taken[bool(inner)] += 1
        self.assertTrue(min(taken) > 0, taken)

    def test_a_cube_within_a_cell(self):
        # Cut out of a wide simplex by six blades, a cube has six walls and parts into six simplexes.
        wide = (spot(-1, -1, -1), spot(9, -1, -1), spot(-1, 9, -1), spot(-1, -1, 9))
        lines = [(1, 0, 0, 0), (-1, 0, 0, 1), (0, 1, 0, 0), (0, -1, 0, 1), (0, 0, 1, 0), (0, 0, -1, 1)]
        cell = within(cell_of(wide), lines)
        self.assert_cell(cell)
        self.assertEqual(len(cell), 6)
        self.assertEqual(len(simplexes_of(cell)), 6)
        self.assertIs(same(simplexes_of(cell), CUBE_OF_SIX), True)


if __name__ == "__main__":
    unittest.main()
