"""One heap led to another one, by pushes and turns or by pushes alone."""

from scissorhall.cells import simplexes_of
from scissorhall.errors import OtherSize, OtherSum, TooWide
from scissorhall.floors import Floor, Folded
from scissorhall.folds import folded, out_of_steps, steps
from scissorhall.heaps import size
from scissorhall.laying import laid
from scissorhall.moves import move
from scissorhall.points import added, lessened
from scissorhall.sums import edge_sums, least_unlike, side_sums, wall_sums
from scissorhall.widths import cells_of, directions, lines_of, too_wide

PUSHES = (1,)
PUSHES_AND_TURNS = (1, -1)


def led(one, other):
    return leading(one, other, PUSHES_AND_TURNS, (), (edge_sums,))


def pushed(one, other):
    return leading(one, other, PUSHES, (side_sums,), (wall_sums, edge_sums))


def leading(one, other, ways, flat_sums, space_sums):
    if size(one) != size(other):
        raise OtherSize("the sizes of the heaps differ")
    if len(one) == 0:
        return ()
    asked = flat_sums if len(one[0]) == 3 else space_sums
    for sums in asked:
        key = least_unlike(sums(one), sums(other))
        if key is not None:
            raise OtherSum(key)
    return by_floor(one, other, ways)


def by_floor(one, other, ways):
    grid = steps((one, other))
    pieces = [[folded(piece, grid) for piece in heap] for heap in (one, other)]
    across = directions(pieces[0] + pieces[1])
    lines = lines_of(across)
    cells = cells_of(one, grid)
    if too_wide(lines, cells, grid):
        raise TooWide(lines, cells)
    floor = Floor(across, len(ways) == 2)
    bodies = []
    for heap, rows in zip((one, other), pieces):
        bodies.append([Folded(piece[0], row, floor, ways) for piece, row in zip(heap, rows)])
    cutting = []
    for i, k, way, shift, parts in laid(floor, bodies[0], bodies[1]):
        start = bodies[0][i].start
        cutting += rows_of(parts, grid, start, whole_move(way, shift, grid, start, bodies[1][k].start))
    return tuple(cutting)


def whole_move(way, shift, grid, start, end):
    # Without the steps and from where the simplexes lie: start goes to the end, but for the shift.
    far = added(end, out_of_steps(shift + (1,), grid))
    return move(way, lessened(far, start) if way == 1 else added(far, start))


def rows_of(parts, grid, start, one_move):
    rows = []
    for cell in parts:
        real = [[added(start, out_of_steps(p, grid)) for p in ring] for ring in cell]
        rows += [(piece, one_move) for piece in simplexes_of(real)]
    return rows
