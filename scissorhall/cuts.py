"""Blades, which are lines of the plane and planes of space, and heaps cut by them."""

from scissorhall.errors import NoBlade
from scissorhall.lowest import reduced
from scissorhall.points import dot, normal, point, whole_arrow
from scissorhall.simplexes import replaced, simplex


def blade(points):
    first = points[0]
    front = normal([whole_arrow(first, p) for p in points[1:]])
    if not any(front):
        raise NoBlade("more than one line or plane holds the points")
    numbers = [first[-1] * number for number in front]
    return tuple(reduced(numbers + [-dot(front, first[:-1])]))


def height(blade, p):
    return dot(blade, p)


def crossing(p, q, p_height, q_height):
    # The two heights have unlike signs; weighed by each other's, p and q come to a height of 0.
    numbers = [p_height * second - q_height * first for first, second in zip(p, q)]
    return point(numbers[:-1], numbers[-1])


def parted(corners, heights):
    top = heights.index(max(heights))
    low = heights.index(min(heights))
    if heights[top] <= 0 or heights[low] >= 0:
        return [corners]
    middle = crossing(corners[top], corners[low], heights[top], heights[low])
    parts = []
    for k in (top, low):
        parts += parted(replaced(corners, k, middle), replaced(heights, k, 0))
    return parts


def heights_of(corners, blade):
    return tuple([height(blade, p) for p in corners])


def cut(heap, blade):
    front = []
    behind = []
    for piece in heap:
        for part in parted(piece, heights_of(piece, blade)):
            if max(heights_of(part, blade)) > 0:
                front.append(simplex(part))
            else:
                behind.append(simplex(part))
    return (tuple(front), tuple(behind))
