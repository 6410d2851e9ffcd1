"""Convex cells, kept whole while blades cut them, and parted into simplexes in the end.

A cell is a list of rings of points: flat its border, gone with the cell on the left; in space one ring for each wall,
gone as the walls of a simplex are. Where nothing is left of a cell it is [].
"""

from scissorhall.cuts import blade, crossing, height
from scissorhall.simplexes import simplex, walls


def cell_of(piece):
    return [piece] if len(piece) == 3 else walls(piece)


def corners_of(cell):
    corners = {}
    for ring in cell:
        for p in ring:
            corners[p] = True
    return list(corners)


def blades_about(cell):
    # Two points are exchanged in space, as the cell is to lie in front and the walls' rings look outward.
    if len(cell[0][0]) == 4:
        return [blade((ring[1], ring[0], ring[2])) for ring in cell]
    ring = cell[0]
    return [blade((ring[k - 1], ring[k])) for k in range(len(ring))]


def clipped(ring, heights):
    kept = []
    for k in range(len(ring)):
        p = ring[k - 1]
        q = ring[k]
        if heights[p] * heights[q] < 0:
            kept.append(crossing(p, q, heights[p], heights[q]))
        if heights[q] >= 0:
            kept.append(q)
    return kept


def lid(rings, heights):
    # Each ring that reaches the blade with a side has it in common with the lid, which goes it backward.
    following = {}
    for ring in rings:
        for k in range(len(ring)):
            # Points that have no height yet came of crossings and lie on the blade.
            if heights.get(ring[k - 1], 0) == 0 and heights.get(ring[k], 0) == 0:
                following[ring[k]] = ring[k - 1]
    ring = [min(following)]
    while following[ring[-1]] != ring[0]:
        ring.append(following[ring[-1]])
    return ring


def half(cell, line):
    heights = {}
    for p in corners_of(cell):
        heights[p] = height(line, p)
    if max(heights.values()) <= 0:
        return []
    if min(heights.values()) >= 0:
        return cell
    reaching = [ring for ring in cell if max([heights[p] for p in ring]) > 0]
    rings = [clipped(ring, heights) for ring in reaching]
    if len(line) == 4:
        rings.append(lid(rings, heights))
    return rings


def within(cell, lines):
    for line in lines:
        if cell:
            cell = half(cell, line)
    return cell


def without(cell, lines):
    parts = []
    inner = cell
    for line in lines:
        outer = half(inner, tuple([-number for number in line]))
        inner = half(inner, line)
        if not inner:
            # Nothing is taken away: the cell stays whole, as cuts would be for nothing.
            return [cell]
        if outer:
            parts.append(outer)
    return parts


def simplexes_of(cell):
    # From one corner to all the walls that do not hold it.
    if len(cell[0][0]) == 3:
        ring = cell[0]
        return [simplex((ring[0], ring[k - 1], ring[k])) for k in range(2, len(ring))]
    top = cell[0][0]
    found = []
    for ring in cell:
        if top not in ring:
            found += [simplex((top, ring[0], ring[k - 1], ring[k])) for k in range(2, len(ring))]
    return found
