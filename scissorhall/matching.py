"""Two heaps that are the same, matched: cells that lie in a simplex of either, each layer with one of the other's."""

from scissorhall.cells import blades_about, cell_of, within, without
from scissorhall.cuts import height
from scissorhall.lowest import divisor


class Body:
    def __init__(self, piece, bottom):
        self.corners = piece
        self.cell = cell_of(piece)
        self.blades = blades_about(self.cell)
        self.spans = spans(piece, bottom)


def spans(piece, bottom):
    found = []
    for k in range(len(piece) - 1):
        numbers = [p[k] * (bottom // p[-1]) for p in piece]
        found.append((min(numbers), max(numbers)))
    return found


def common_bottom(heaps):
    bottom = 1
    for heap in heaps:
        for piece in heap:
            for p in piece:
                bottom = bottom // divisor(bottom, p[-1]) * p[-1]
    return bottom


def apart(one, other):
    for k in range(len(one)):
        if one[k][1] <= other[k][0] or other[k][1] <= one[k][0]:
            return True
    return False


def standing_to(corners, blades):
    # -1 where one of the blades has nothing in front, 1 where none of them has anything behind.
    lows = []
    for line in blades:
        heights = [height(line, p) for p in corners]
        if max(heights) <= 0:
            return -1
        lows.append(min(heights))
    return 1 if min(lows) >= 0 else 0


def common_cell(one, other):
    inner = standing_to(one.corners, other.blades)
    outer = standing_to(other.corners, one.blades)
    if inner == -1 or outer == -1:
        return []
    if inner == 1:
        return one.cell
    if outer == 1:
        return other.cell
    return within(one.cell, other.blades)


def meetings(bodies):
    # Gone through along the first measure, so that only those are compared that reach one another there.
    found = []
    reached = []
    for i in sorted(range(len(bodies)), key=lambda k: bodies[k].spans[0][0]):
        start = bodies[i].spans[0][0]
        reached = [k for k in reached if bodies[k].spans[0][1] > start]
        near = [k for k in reached if not apart(bodies[i].spans, bodies[k].spans)]
        found += [(min(i, k), max(i, k)) for k in near]
        reached.append(i)
    return found


def layers_over(bodies, pairs):
    found = [[] for body in bodies]
    for i, k in pairs:
        if common_cell(bodies[i], bodies[k]):
            found[i].append(k)
            found[k].append(i)
    return found


def in_order(bodies, pairs):
    # Simplexes with blades in common come first: they are alike, or parts of one simplex, and where layers lie over
    # one another such pairs leave fewer and plainer rests.
    rows = []
    for i, k in pairs:
        alike = [line for line in bodies[i].blades if line in bodies[k].blades]
        rows.append((-len(alike), i, k))
    return [row[1:] for row in sorted(rows)]


def left_of(cell, taken):
    rest = [cell]
    for gone in taken:
        lines = blades_about(gone)
        parts = []
        for part in rest:
            parts += without(part, lines)
        rest = parts
    return rest


def taken_already(pair, over, found):
    # What this simplex of the one heap, or this one of the other, gave to those that lie over its partner.
    cells = []
    for k in over[pair[1]]:
        cells += found.get((pair[0], k), [])
    for k in over[pair[0]]:
        cells += found.get((k, pair[1]), [])
    return cells


def used_up(bodies, pair):
    both = (pair, (pair[1], pair[0]))
    return [one for one, other in both if standing_to(bodies[one].corners, bodies[other].blades) == 1]


def matched(one, other):
    # Whatever is taken first, each layer finds one over it at last, as there are as many on both sides.
    bottom = common_bottom((one, other))
    bodies = [Body(piece, bottom) for piece in one + other]
    pairs = meetings(bodies)
    start = len(one)
    over = layers_over(bodies, [row for row in pairs if (row[0] < start) == (row[1] < start)])
    found = {}
    full = {}
    for pair in in_order(bodies, [row for row in pairs if row[0] < start <= row[1]]):
        if pair[0] in full or pair[1] in full:
            continue
        cell = common_cell(bodies[pair[0]], bodies[pair[1]])
        if cell:
            found[pair] = left_of(cell, taken_already(pair, over, found))
            if found[pair] == [cell]:
                for k in used_up(bodies, pair):
                    full[k] = True
    return [(pair[0], pair[1] - start, found[pair]) for pair in found]
