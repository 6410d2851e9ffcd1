"""Points, flat (x, y, w) and in space (x, y, z, w), in lowest terms; arrows are told as points too."""

from scissorhall.errors import NoPoint
from scissorhall.lowest import divisor, fraction, sign


def point(numbers, bottom=1):
    if bottom == 0:
        raise NoPoint("the bottom of a point is 0")
    common = bottom
    for number in numbers:
        common = divisor(common, number)
    # With the bottom's sign, the divisor leaves a bottom above 0.
    common = sign(bottom) * common
    return tuple([number // common for number in numbers] + [bottom // common])


def measures(p):
    return tuple([fraction(number, p[-1]) for number in p[:-1]])


def added(p, q):
    numbers = [one * q[-1] + other * p[-1] for one, other in zip(p[:-1], q[:-1])]
    return point(numbers, p[-1] * q[-1])


def lessened(p, q):
    return added(p, turned(q))


def turned(p):
    return tuple([-number for number in p[:-1]] + [p[-1]])


def amid(p, q):
    whole = added(p, q)
    return point(whole[:-1], 2 * whole[-1])


def whole_arrow(start, end):
    # The arrow times both bottoms, which are above 0: whole numbers with the arrow's direction.
    return [far * start[-1] - near * end[-1] for near, far in zip(start[:-1], end[:-1])]


def flat_determinant(u, v):
    return u[0] * v[1] - u[1] * v[0]


def space_determinant(u, v, w):
    first = u[0] * (v[1] * w[2] - v[2] * w[1])
    second = u[1] * (v[2] * w[0] - v[0] * w[2])
    third = u[2] * (v[0] * w[1] - v[1] * w[0])
    return first + second + third


def side(points):
    rows = [whole_arrow(points[0], p) for p in points[1:]]
    if len(rows) == 2:
        return sign(flat_determinant(rows[0], rows[1]))
    return sign(space_determinant(rows[0], rows[1], rows[2]))
