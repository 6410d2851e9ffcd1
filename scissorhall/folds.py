"""Folding: the steps of heaps, and the layers over a point when each simplex is pushed to the origin."""

from scissorhall.heaps import count_at
from scissorhall.lowest import divided, shared, times
from scissorhall.points import lessened, measures, point_at


def steps(heaps):
    found = []
    for heap in heaps:
        for piece in heap:
            # The other edges are differences of those at the first corner, and bring in nothing more.
            for p in piece[1:]:
                parts = measures(lessened(p, piece[0]))
                known = found if found else [(0, 1) for part in parts]
                found = [shared(one, part) for one, part in zip(known, parts)]
    return tuple(found)


def in_steps(p, grid):
    return point_at([divided(one, step) for one, step in zip(measures(p), grid)])


def out_of_steps(p, grid):
    return point_at([times(one, step) for one, step in zip(measures(p), grid)])


def folded(piece, grid):
    # In steps, with the first corner at the origin: all bottoms are 1, where the grid is of heaps with this piece.
    return tuple([in_steps(lessened(corner, piece[0]), grid) for corner in piece])


def in_first_cell(p):
    # Told in steps, a grid arrow is made of whole numbers.
    return tuple([number % p[-1] for number in p[:-1]] + [p[-1]])


def spots_over(piece, p):
    # The corners are told in steps and their bottoms are 1; p lies in the first cell.
    rows = [()]
    for k in range(len(p) - 1):
        numbers = [corner[k] for corner in piece]
        longer = []
        for row in rows:
            longer += [row + (p[k] + cell * p[-1],) for cell in range(min(numbers), max(numbers) + 1)]
        rows = longer
    return [row + (p[-1],) for row in rows]


def layers(heap, grid, p):
    near = in_first_cell(in_steps(p, grid))
    count = 0
    for piece in heap:
        pushed = folded(piece, grid)
        for spot in spots_over(pushed, near):
            count += count_at((pushed,), spot)
    return count
