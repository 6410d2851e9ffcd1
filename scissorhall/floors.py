"""Floors: the first cell of a grid, or half of it, cut into regions, and simplexes folded onto it in layers.

All is told in steps. A set of regions is one whole number, in which each region has a bit of its own.
"""

from scissorhall.cells import blades_about, cell_of, corners_of, half, within
from scissorhall.cuts import height
from scissorhall.points import added, dot, point
from scissorhall.simplexes import simplex


class Floor:
    def __init__(self, ways, halved):
        # The ways lead across all the lines (planes) that go through the grid's points.
        cell = first_cell(len(ways[0]), halved)
        self.corners = corners_of(cell)
        self.lines = []
        for way in ways:
            self.lines += lines_across(self.corners, way)
        self.spots = [middle(part) for part in regions_of(cell, self.lines)]
        self.everything = (1 << len(self.spots)) - 1
        # Twice the length of each measure of the floor.
        self.spread = (2,) * (len(ways[0]) - 1) + (1 if halved else 2,)
        self.known = {}
        # For counting bits: the lower half of each 2, 4, 8 and 16 of them.
        bits = (1 << (len(self.spots) // 16 + 1) * 16) - 1
        self.low_bits = (bits // 3, bits // 5, bits // 17, bits // 257)

    def counted(self, regions):
        # Two neighbouring counts are added at each step, and in the end those of all the sixteens.
        for number, low in zip((1, 2, 4, 8), self.low_bits):
            regions = (regions & low) + (regions >> number & low)
        return regions % 65535

    def in_front(self, line):
        if line not in self.known:
            self.known[line] = self.found_in_front(line)
        return self.known[line]

    def found_in_front(self, line):
        heights = [height(line, p) for p in self.corners]
        if min(heights) >= 0:
            return self.everything
        if max(heights) <= 0:
            return 0
        return sum([1 << k for k in range(len(self.spots)) if height(line, self.spots[k]) > 0])


class Layer:
    def __init__(self, arrow, way, regions):
        # A point x of the floor has the layer at arrow + way x in the simplex, in these regions.
        self.arrow = arrow
        self.way = way
        self.regions = regions
        self.free = regions


class Folded:
    def __init__(self, start, piece, floor, ways):
        # The simplex's first point as it is, and the simplex in steps, pushed to the origin.
        self.start = start
        self.cell = cell_of(piece)
        self.blades = blades_about(self.cell)
        self.layers = []
        for way in ways:
            self.layers += layers_over(floor, piece, self.blades, way)
        self.content = sum([floor.counted(layer.regions) for layer in self.layers])


def axis(count, place, number):
    return [number if k == place else 0 for k in range(count)]


def first_cell(count, halved):
    # Cut out of a simplex that holds it.
    corners = [point([0] * count)] + [point(axis(count, k, count)) for k in range(count)]
    lines = [tuple(axis(count, k, -1) + [1]) for k in range(count)]
    if halved:
        lines[-1] = tuple(axis(count, count - 1, -2) + [1])
    return within(cell_of(simplex(corners)), lines)


def lines_across(corners, way):
    # The bottoms are 1 or 2; twice the heights are whole numbers.
    heights = [dot(way, p) * (2 // p[-1]) for p in corners]
    return [way + (-number,) for number in range(min(heights) // 2 + 1, (max(heights) + 1) // 2)]


def turned_over(line):
    return tuple([-number for number in line])


def regions_of(cell, lines):
    parts = [cell]
    for line in lines:
        cut_parts = []
        for part in parts:
            cut_parts += [side for side in (half(part, line), half(part, turned_over(line))) if side]
        parts = cut_parts
    return parts


def middle(cell):
    corners = corners_of(cell)
    whole = corners[0]
    for p in corners[1:]:
        whole = added(whole, p)
    return point(whole[:-1], len(corners) * whole[-1])


def drawn(line, way, arrow):
    # The line whose height at x is this line's height at arrow + way x.
    return tuple([way * number for number in line[:-1]] + [line[-1] + dot(line, arrow)])


def arrows_to(piece, way):
    # To the cells of the box about the piece: a floor turned about ends at its arrow, else it begins there.
    later = 0 if way == 1 else 1
    rows = [()]
    for k in range(len(piece) - 1):
        numbers = [p[k] for p in piece]
        longer = []
        for row in rows:
            longer += [row + (number + later,) for number in range(min(numbers), max(numbers))]
        rows = longer
    return rows


def layers_over(floor, piece, blades, way):
    found = []
    for arrow in arrows_to(piece, way):
        regions = floor.everything
        for line in blades:
            if regions:
                regions = regions & floor.in_front(drawn(line, way, arrow))
        if regions:
            found.append(Layer(arrow, way, regions))
    return found
