"""Cuttings, whose rows are a simplex and its move."""

from scissorhall.cells import simplexes_of
from scissorhall.errors import NotSame
from scissorhall.heaps import same
from scissorhall.matching import matched
from scissorhall.moves import after, is_push, moved, undone


def comes_of(cutting):
    return tuple([row[0] for row in cutting])


def moved_piece(row):
    return moved((row[0],), row[1])[0]


def goes_to(cutting):
    return tuple([moved_piece(row) for row in cutting])


def back(cutting):
    return tuple([(moved_piece(row), undone(row[1])) for row in cutting])


def leads(cutting, one, other, pushes=False):
    if pushes and not all([is_push(row[1]) for row in cutting]):
        return False
    return same(comes_of(cutting), one) and same(goes_to(cutting), other)


def behind(first, second):
    middle = goes_to(first)
    if not same(middle, comes_of(second)):
        raise NotSame("the second cutting does not begin as the first one ends")
    rows = []
    for i, k, cells in matched(middle, comes_of(second)):
        start = first[i][1]
        whole = after(start, second[k][1])
        for cell in cells:
            rows += [(piece, whole) for piece in moved(simplexes_of(cell), undone(start))]
    return tuple(rows)
