"""Flat heaps led to boxes of a given width."""

from scissorhall.errors import NoBox
from scissorhall.heaps import size
from scissorhall.leading import led
from scissorhall.lowest import divided, ranked
from scissorhall.points import point_at
from scissorhall.simplexes import simplex


def long_box(area, width):
    if ranked(width, (0, 1)) <= 0 or ranked(area, (0, 1)) < 0:
        raise NoBox("a box needs a width above nought and no area below it")
    if area == (0, 1):
        return ()
    length = divided(area, width)
    start = point_at([(0, 1), (0, 1)])
    end = point_at([length, width])
    others = (point_at([length, (0, 1)]), point_at([(0, 1), width]))
    return tuple(sorted([simplex((start, corner, end)) for corner in others]))


def boxed(heap, width):
    return led(heap, long_box(size(heap), width))
