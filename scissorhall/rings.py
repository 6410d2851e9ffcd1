"""Rings of flat points, gone straight from each to the one that follows and from the last to the first."""

from scissorhall.cells import clipped
from scissorhall.cuts import blade, height
from scissorhall.points import point, side


def shortened(row):
    # At its end: a point twice, or one on the line of its neighbours, which may be the tip of a spike.
    while len(row) > 1:
        if row[-1] == row[-2]:
            row = row[:-1]
        elif len(row) > 2 and side(row[-3:]) == 0:
            row = row[:-2] + row[-1:]
        else:
            return row
    return row


def smoothed(ring):
    row = []
    for p in ring:
        row = shortened(row + [p])
    return row


def tidied(ring):
    # Without the points that change nothing off some lines; begun elsewhere till nothing goes away at the seam either.
    row = smoothed(ring)
    count = len(row) + 1
    while len(row) < count:
        count = len(row)
        row = smoothed(row[2:] + row[:2])
    return row


def lines_of_sides(ring):
    # Each line once, as a ring may go along it often.
    lines = {}
    for k in range(len(ring)):
        lines[blade((ring[k - 1], ring[k]))] = True
    return list(lines)


def heights_over(line, ring):
    heights = {}
    for p in ring:
        heights[p] = height(line, p)
    return heights


def box_about(ring):
    lows = [min([p[k] // p[-1] for p in ring]) for k in range(2)]
    highs = [max([-(-p[k] // p[-1]) for p in ring]) for k in range(2)]
    numbers = (lows, [highs[0], lows[1]], highs, [lows[0], highs[1]])
    return [point(row) for row in numbers]


def hub(ring, lines):
    # A point that has no side of the ring on the wrong hand, one of the ring's own if there is one, or None.
    left = box_about(ring)
    for line in lines:
        left = clipped(left, heights_over(line, left))
        if not left:
            return None
    own = [p for p in left if p in ring]
    return min(own) if own else min(left)


def splitting_line(ring, lines):
    # None where each side has all of the ring on one hand.
    best = None
    for line in lines:
        heights = [height(line, p) for p in ring]
        front = len([number for number in heights if number > 0])
        back = len([number for number in heights if number < 0])
        if front and back:
            crossings = len([k for k in range(len(ring)) if heights[k - 1] * heights[k] < 0])
            row = (crossings - min(front, back), line)
            if best is None or row < best:
                best = row
    return None if best is None else best[1]


def parted(ring, line):
    # What lies beyond the line shrinks onto it, and goes round nothing any more on this side of it.
    parts = []
    for one in (line, tuple([-number for number in line])):
        parts.append(tidied(clipped(ring, heights_over(one, ring))))
    return parts
