"""Sums by directions: of the sides of flat heaps, and of the walls and edges of heaps in space."""

from scissorhall.heaps import sides
from scissorhall.lowest import fraction, lowest_way, total
from scissorhall.points import normal, whole_arrow
from scissorhall.simplexes import walls


def along(numbers, bottom):
    # The lowest way of the arrow with these numbers over the bottom, and how many times it the arrow is.
    way = lowest_way(numbers)
    place = [k for k in range(len(way)) if way[k] != 0][0]
    return (way, fraction(numbers[place], way[place] * bottom))


def side_share(start, end):
    return along(whole_arrow(start, end), start[-1] * end[-1])


def wall_share(wall):
    first = wall[0]
    arrow = normal([whole_arrow(first, p) for p in wall[1:]])
    return along(arrow, 2 * first[-1] * first[-1] * wall[1][-1] * wall[2][-1])


def summed(rows):
    parts = {}
    for key, share in rows:
        parts.setdefault(key, []).append(share)
    sums = [(key, total(parts[key])) for key in sorted(parts)]
    return tuple([row for row in sums if row[1] != (0, 1)])


def all_walls(heap):
    found = []
    for piece in heap:
        found += walls(piece)
    return found


def side_sums(heap):
    return summed([side_share(start, end) for start, end in all_walls(heap)])


def wall_sums(heap):
    return summed([wall_share(wall) for wall in all_walls(heap)])


def edge_sums(heap):
    rows = []
    for wall in all_walls(heap):
        plane = wall_share(wall)[0]
        for start, end in sides(wall):
            found = side_share(start, end)
            rows.append(((plane, found[0]), found[1]))
    return summed(rows)


def least_unlike(one, other):
    # Of two such sums the least key at which they differ, None where they agree; what is not told is nought.
    first = dict(one)
    second = dict(other)
    keys = [key for key in list(first) + list(second) if first.get(key) != second.get(key)]
    return min(keys) if keys else None
