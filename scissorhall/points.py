"""Points, flat (x, y, w) and in space (x, y, z, w), in lowest terms; arrows are told as points too."""

from scissorhall.errors import NoPoint
from scissorhall.lowest import fraction, reduced, sign


def point(numbers, bottom=1):
    if bottom == 0:
        raise NoPoint("the bottom of a point is 0")
    # The bottom's sign goes over to the numbers, as it is to be above 0.
    return tuple([sign(bottom) * number for number in reduced(list(numbers) + [bottom])])


def measures(p):
    return tuple([fraction(number, p[-1]) for number in p[:-1]])


def point_at(parts):
    # The point whose measures these fractions are.
    bottom = 1
    for part in parts:
        bottom = bottom * part[1]
    return point([part[0] * (bottom // part[1]) for part in parts], bottom)


def added(p, q):
    numbers = [one * q[-1] + other * p[-1] for one, other in zip(p[:-1], q[:-1])]
    return point(numbers, p[-1] * q[-1])


def lessened(p, q):
    return added(p, turned(q))


def turned(p):
    return tuple([-number for number in p[:-1]] + [p[-1]])


def amid(p, q):
    whole = added(p, q)
    return point(whole[:-1], 2 * whole[-1])


def whole_arrow(start, end):
    # The arrow times both bottoms, which are above 0: whole numbers with the arrow's direction.
    return [far * start[-1] - near * end[-1] for near, far in zip(start[:-1], end[:-1])]


def dot(u, v):
    return sum([one * other for one, other in zip(u, v)])


def normal(arrows):
    # The row whose dot product with one arrow more is the determinant of all of them.
    u = arrows[0]
    if len(arrows) == 1:
        return [-u[1], u[0]]
    v = arrows[1]
    return [u[1] * v[2] - u[2] * v[1], u[2] * v[0] - u[0] * v[2], u[0] * v[1] - u[1] * v[0]]


def determinant(points):
    # Times the first bottom and each other one, a factor above 0 for each row.
    rows = [whole_arrow(points[0], p) for p in points[1:]]
    return dot(normal(rows[:-1]), rows[-1])


def side(points):
    return sign(determinant(points))
