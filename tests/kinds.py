"""What the tests share: the form of answers, a reckoning of its own by Python's fractions, and some bodies."""

import inspect
import itertools
from fractions import Fraction
from math import gcd


def is_whole(value):
    return type(value) is int


def is_plain(value):
    """Whole numbers, texts, True, False, None, and tuples of such."""
    if type(value) is tuple:
        return all(is_plain(part) for part in value)
    return value is None or type(value) in (int, str, bool)


def arguments(function):
    """The names of a function's arguments, those with a default as pairs."""
    told = []
    for parameter in inspect.signature(function).parameters.values():
        bare = parameter.default is inspect.Parameter.empty
        told.append(parameter.name if bare else (parameter.name, parameter.default))
    return told


def worths(p):
    return [Fraction(number, p[-1]) for number in p[:-1]]


def point_of(fractions):
    """The point with these measures, reckoned another way than the program does."""
    bottom = 1
    for one in fractions:
        bottom = bottom * one.denominator // gcd(bottom, one.denominator)
    return tuple(int(one * bottom) for one in fractions) + (bottom,)


def spot(*numbers):
    """The point with these measures: whole numbers, Python's fractions, or texts of such."""
    return point_of([Fraction(number) for number in numbers])


def amidst(points, weights=None):
    """The mean of points, each as heavy as its weight."""
    weights = weights or [1] * len(points)
    rows = zip(*[worths(p) for p in points])
    return point_of([sum(w * x for w, x in zip(weights, row)) / Fraction(sum(weights)) for row in rows])


def determinant_of(rows):
    """By rows taken from one another, with Python's fractions."""
    rows = [[Fraction(one) for one in row] for row in rows]
    worth = Fraction(1)
    for k in range(len(rows)):
        found = [i for i in range(k, len(rows)) if rows[i][k] != 0]
        if not found:
            return Fraction(0)
        if found[0] != k:
            rows[k], rows[found[0]] = rows[found[0]], rows[k]
            worth = -worth
        worth *= rows[k][k]
        for i in range(k + 1, len(rows)):
            factor = rows[i][k] / rows[k][k]
            rows[i] = [one - factor * other for one, other in zip(rows[i], rows[k])]
    return worth


def spread(corners):
    """The determinant whose rows are the later corners, each less the first."""
    first = worths(corners[0])
    return determinant_of([[x - a for x, a in zip(worths(p), first)] for p in corners[1:]])


def content(corners):
    """Area or volume of one simplex."""
    return abs(spread(corners)) / (2 if len(corners) == 3 else 6)


def stand(corners, p):
    """1 where p lies within the simplex, 0 on its border, -1 outside."""
    whole = spread(corners)
    shares = []
    for k in range(len(corners)):
        shares.append(spread(corners[:k] + (p,) + corners[k + 1:]) / whole)
    return 1 if min(shares) > 0 else 0 if min(shares) == 0 else -1


def is_point(value):
    return type(value) is tuple and all(is_whole(number) for number in value) and value == point_of(worths(value))


def is_simplex(value):
    """A simplex in its one form."""
    if type(value) is not tuple or not all(is_point(p) for p in value):
        return False
    if len({len(p) for p in value}) != 1 or len(value) != len(value[0]) or len(value) not in (3, 4):
        return False
    if value[0] != min(value) or (len(value) == 4 and value[1] != min(value[1:])):
        return False
    return spread(value) > 0


def made(corners):
    """The one form of a simplex, found by trying all orders."""
    return [order for order in itertools.permutations(corners) if is_simplex(order)][0]


def heap_of(rows):
    return tuple(made(row) for row in rows)


def goes(p, way, arrow):
    """Where a move takes p."""
    return point_of([way * x + a for x, a in zip(worths(p), worths(arrow))])


def pushed_by(heap, arrow):
    return heap_of([[goes(p, 1, arrow) for p in piece] for piece in heap])


def bar(x, y, far_x, far_y):
    """A flat box of two simplexes."""
    ends = (spot(x, y), spot(far_x, y), spot(far_x, far_y), spot(x, far_y))
    return heap_of([ends[:3], (ends[0],) + ends[2:]])


HALF_SQUARE = made((spot(0, 0), spot(1, 0), spot(0, 1)))
OTHER_HALF = made((spot(1, 0), spot(1, 1), spot(0, 1)))
SQUARE = (HALF_SQUARE, OTHER_HALF)
# The same square, parted by its other diagonal.
SQUARE_OTHERWISE = heap_of([(spot(0, 0), spot(1, 0), spot(1, 1)), (spot(0, 0), spot(1, 1), spot(0, 1))])
CORNER = made((spot(0, 0, 0), spot(1, 0, 0), spot(0, 1, 0), spot(0, 0, 1)))
CUBE_OF_SIX = heap_of(
    [
        [spot(*[1 if i in order[:k] else 0 for i in range(3)]) for k in range(4)]
        for order in itertools.permutations(range(3))
    ]
)
CUBE_OF_FIVE = heap_of(
    [
        (spot(0, 0, 0), spot(1, 0, 0), spot(0, 1, 0), spot(0, 0, 1)),
        (spot(1, 1, 0), spot(0, 1, 0), spot(1, 0, 0), spot(1, 1, 1)),
        (spot(1, 0, 1), spot(0, 0, 1), spot(1, 1, 1), spot(1, 0, 0)),
        (spot(0, 1, 1), spot(1, 1, 1), spot(0, 0, 1), spot(0, 1, 0)),
        (spot(1, 0, 0), spot(0, 1, 0), spot(0, 0, 1), spot(1, 1, 1)),
    ]
)
# Unlike bottoms, noughts and signs, and one that lies over another one.
FLAT_HEAP = heap_of(
    [
        (spot(0, 0), spot(2, "1/3"), spot("-1/2", 1)),
        (spot("1/2", "-3/4"), spot(3, 1), spot(1, "5/2")),
        (spot(0, 0), spot(2, "1/3"), spot("-1/2", 1)),
        (spot(-3, -2), spot("-7/5", "-2/7"), spot(-2, 1)),
    ]
)
SPACE_HEAP = heap_of(
    [
        (spot(0, 0, 0), spot(2, "1/3", 0), spot("-1/2", 1, "1/5"), spot(0, "1/2", 2)),
        (spot("1/2", "-3/4", 0), spot(3, 1, "-1/2"), spot(1, "5/2", 0), spot(1, 1, "7/3")),
        (spot(0, 0, 0), spot(2, "1/3", 0), spot("-1/2", 1, "1/5"), spot(0, "1/2", 2)),
        (spot(-3, -2, -1), spot("-7/5", "-2/7", 0), spot(-2, 1, 0), spot(-2, -1, "3/2")),
    ]
)
