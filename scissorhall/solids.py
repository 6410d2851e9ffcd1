"""Bodies made anew: what a ring goes round, prisms, pyramids and boxes."""

from scissorhall.errors import Backward, Flat
from scissorhall.points import added, side
from scissorhall.rings import hub, lines_of_sides, parted, splitting_line, tidied
from scissorhall.simplexes import simplex

# The orders in which a box adds its arrows.
FLAT_ORDERS = ((0, 1), (1, 0))
SPACE_ORDERS = ((0, 1, 2), (0, 2, 1), (1, 0, 2), (1, 2, 0), (2, 0, 1), (2, 1, 0))


def fan(top, ring):
    stretches = [(top, ring[k - 1], ring[k]) for k in range(len(ring))]
    return [simplex(corners) for corners in stretches if side(corners) > 0]


def walked(ring):
    found = []
    waiting = [tidied(ring)]
    while waiting:
        part = waiting.pop()
        if len(part) < 3:
            continue
        lines = lines_of_sides(part)
        top = hub(part, lines)
        if top is not None:
            found += fan(top, part)
            continue
        line = splitting_line(part, lines)
        if line is None:
            # No side has the ring on both hands, so it goes round and round one convex body, here to the right.
            raise Backward("the ring goes round some point more often to the right than to the left")
        waiting += parted(part, line)
    return tuple(found)


def in_space(p):
    return p[:2] + (0,) + p[2:]


def refuse_flat(arrow):
    if arrow[2] == 0:
        raise Flat("the third measure is nought")


def prism(heap, arrow):
    refuse_flat(arrow)
    found = []
    for piece in heap:
        low = [in_space(p) for p in piece]
        corners = low + [added(p, arrow) for p in low]
        found += [simplex(corners[k:k + 4]) for k in range(3)]
    return tuple(found)


def pyramid(heap, top):
    refuse_flat(top)
    return tuple([simplex([in_space(p) for p in piece] + [top]) for piece in heap])


def gone(corner, arrows, order):
    corners = [corner]
    for k in order:
        corners.append(added(corners[-1], arrows[k]))
    return corners


def box(corner, arrows):
    # Arrows along one line or in one plane make flat simplexes, which are refused.
    orders = FLAT_ORDERS if len(arrows) == 2 else SPACE_ORDERS
    return tuple([simplex(gone(corner, arrows, order)) for order in orders])
