"""How wide two heaps are, in the grid of their steps."""

from scissorhall.heaps import plane_way, size
from scissorhall.lowest import divided, ranked
from scissorhall.simplexes import walls

FLAT_LINES = 40
FLAT_CELLS = (60, 1)
SPACE_LINES = 24
SPACE_CELLS = (12, 1)


def directions(pieces):
    # Of pieces told in steps; a flat edge's direction is told by the way across it, whose numbers are the same.
    found = {}
    for piece in pieces:
        for wall in walls(piece):
            found[plane_way(wall)] = True
    return sorted(found)


def lines_of(ways):
    return sum([sum([abs(number) for number in way]) for way in ways])


def cells_of(heap, grid):
    cells = size(heap)
    for step in grid:
        cells = divided(cells, step)
    return cells


def too_wide(lines, cells, grid):
    if len(grid) == 2:
        return lines > FLAT_LINES or ranked(cells, FLAT_CELLS) > 0
    return lines > SPACE_LINES or ranked(cells, SPACE_CELLS) > 0
