"""Heaps of simplexes: their size, the count of a point, and whether two of them are the same."""

from scissorhall.errors import OnSide
from scissorhall.lowest import lowest_way, total
from scissorhall.points import normal, whole_arrow
from scissorhall.simplexes import extent, standing, walls


def size(heap):
    return total([extent(piece) for piece in heap])


def count_at(heap, p):
    count = 0
    # All are asked, as a border further on refuses the point too.
    for piece in heap:
        stand = standing(piece, p)
        if stand == 0:
            raise OnSide("the point lies on the border of a simplex")
        if stand > 0:
            count += 1
    return count


def plane_way(wall):
    # In the plane it tells no more than the line's way does.
    return lowest_way(normal([whole_arrow(wall[0], p) for p in wall[1:]]))


def sides(wall):
    if len(wall) == 2:
        return [wall]
    return [(wall[k - 1], wall[k]) for k in range(len(wall))]


def put_wall(marks, wall, number):
    # The plane's way, the line's way and a point on it tell the very line in the very plane.
    # Where the side goes against its line's own way, both its ends and both its signs are exchanged:
    # so its start has the same number either way.
    plane = plane_way(wall)
    for start, end in sides(wall):
        line = lowest_way(whole_arrow(start, end))
        for p, mark in ((start, number), (end, -number)):
            key = (plane, line, p)
            marks[key] = marks.get(key, 0) + mark


def same(one, other):
    marks = {}
    for heap, number in ((one, 1), (other, -1)):
        for piece in heap:
            for wall in walls(piece):
                put_wall(marks, wall, number)
    return not any(marks.values())
