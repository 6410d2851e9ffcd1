"""What the tests share: the form of answers, a reckoning of its own by Python's fractions, and some bodies."""

import inspect
import itertools
from fractions import Fraction
from math import gcd


def is_whole(value):
    return type(value) is int


def is_plain(value):
    """Whole numbers, texts, True, False, None, and tuples of such."""
    if type(value) is tuple:
        return all(is_plain(part) for part in value)
    return value is None or type(value) in (int, str, bool)


def arguments(function):
    """The names of a function's arguments, those with a default as pairs."""
    told = []
    for parameter in inspect.signature(function).parameters.values():
        bare = parameter.default is inspect.Parameter.empty
        told.append(parameter.name if bare else (parameter.name, parameter.default))
    return told


def worths(p):
    return [Fraction(number, p[-1]) for number in p[:-1]]


def point_of(fractions):
    """The point with these measures, reckoned another way than the program does."""
    bottom = 1
    for one in fractions:
        bottom = bottom * one.denominator // gcd(bottom, one.denominator)
    return tuple(int(one * bottom) for one in fractions) + (bottom,)


def spot(*numbers):
    """The point with these measures: whole numbers, Python's fractions, or texts of such."""
    return point_of([Fraction(number) for number in numbers])


def amidst(points, weights=None):
    """The mean of points, each as heavy as its weight."""
    weights = weights or [1] * len(points)
    rows = zip(*[worths(p) for p in points])
    return point_of([sum(w * x for w, x in zip(weights, row)) / Fraction(sum(weights)) for row in rows])


def determinant_of(rows):
    """By rows taken from one another, with Python's fractions."""
    rows = [[Fraction(one) for one in row] for row in rows]
    worth = Fraction(1)
    for k in range(len(rows)):
        found = [i for i in range(k, len(rows)) if rows[i][k] != 0]
        if not found:
            return Fraction(0)
        if found[0] != k:
            rows[k], rows[found[0]] = rows[found[0]], rows[k]
            worth = -worth
        worth *= rows[k][k]
        for i in range(k + 1, len(rows)):
            factor = rows[i][k] / rows[k][k]
            rows[i] = [one - factor * other for one, other in zip(rows[i], rows[k])]
    return worth


def spread(corners):
    """The determinant whose rows are the later corners, each less the first."""
    first = worths(corners[0])
    return determinant_of([[x - a for x, a in zip(worths(p), first)] for p in corners[1:]])


def content(corners):
    """Area or volume of one simplex."""
    return abs(spread(corners)) / (2 if len(corners) == 3 else 6)


def stand(corners, p):
    """1 where p lies within the simplex, 0 on its border, -1 outside."""
    whole = spread(corners)
    shares = []
    for k in range(len(corners)):
        shares.append(spread(corners[:k] + (p,) + corners[k + 1:]) / whole)
    return 1 if min(shares) > 0 else 0 if min(shares) == 0 else -1


def is_point(value):
    return type(value) is tuple and all(is_whole(number) for number in value) and value == point_of(worths(value))


def is_simplex(value):
    """A simplex in its one form."""
    if type(value) is not tuple or not all(is_point(p) for p in value):
        return False
    if len({len(p) for p in value}) != 1 or len(value) != len(value[0]) or len(value) not in (3, 4):
        return False
    if value[0] != min(value) or (len(value) == 4 and value[1] != min(value[1:])):
        return False
    return spread(value) > 0


def made(corners):
    """The one form of a simplex, found by trying all orders."""
    return [order for order in itertools.permutations(corners) if is_simplex(order)][0]


def heap_of(rows):
    return tuple(made(row) for row in rows)


def goes(p, way, arrow):
    """Where a move takes p."""
    return point_of([way * x + a for x, a in zip(worths(p), worths(arrow))])


def pushed_by(heap, arrow):
    return heap_of([[goes(p, 1, arrow) for p in piece] for piece in heap])


def moved_by(heap, way, arrow):
    return heap_of([[goes(p, way, arrow) for p in piece] for piece in heap])


def stretched(heap, factors):
    """Each measure times its factor; the factors are above 0."""
    factors = [Fraction(factor) for factor in factors]
    return heap_of([[point_of([x * f for x, f in zip(worths(p), factors)]) for p in piece] for piece in heap])


def is_move(value):
    if type(value) is not tuple or len(value) != 2:
        return False
    return is_whole(value[0]) and value[0] in (1, -1) and is_point(value[1])


def is_cutting(value):
    """Simplexes and moves in their one form, tuples throughout."""
    return type(value) is tuple and all(
        type(row) is tuple and len(row) == 2 and is_simplex(row[0]) and is_move(row[1]) for row in value
    )


def across(u, v):
    """The arrow across both arrows."""
    return [u[1] * v[2] - u[2] * v[1], u[2] * v[0] - u[0] * v[2], u[0] * v[1] - u[1] * v[0]]


def between(p, q):
    return [y - x for x, y in zip(worths(p), worths(q))]


def lowest(numbers):
    """Whole numbers with the direction of these fractions, without a common divisor; their sign stays."""
    bottom = 1
    for one in numbers:
        bottom = bottom * one.denominator // gcd(bottom, one.denominator)
    whole = [int(one * bottom) for one in numbers]
    return tuple(one // gcd(*whole) for one in whole)


def by_way(arrow):
    """The lowest way of an arrow and the fraction that it is of it."""
    numbers = lowest(arrow)
    if [one for one in numbers if one][0] < 0:
        numbers = tuple(-one for one in numbers)
    return numbers, [x / one for x, one in zip(arrow, numbers) if one][0]


def outward(piece):
    """The walls of a simplex in space with their arrows, which lead out of it."""
    found = []
    for k in range(4):
        wall = piece[:k] + piece[k + 1:]
        arrow = [x / 2 for x in across(between(wall[0], wall[1]), between(wall[0], wall[2]))]
        if sum(a * b for a, b in zip(arrow, between(wall[0], piece[k]))) > 0:
            wall, arrow = (wall[0], wall[2], wall[1]), [-x for x in arrow]
        found.append((wall, arrow))
    return found


def gathered(rows):
    sums = {}
    for key, share in rows:
        sums[key] = sums.get(key, 0) + share
    return tuple((key, (sums[key].numerator, sums[key].denominator)) for key in sorted(sums) if sums[key])


def sums_of_sides(heap):
    return gathered([by_way(between(piece[k - 1], piece[k])) for piece in heap for k in range(3)])


def sums_of_walls(heap):
    return gathered([by_way(arrow) for piece in heap for wall, arrow in outward(piece)])


def sums_of_edges(heap):
    rows = []
    for piece in heap:
        for wall, arrow in outward(piece):
            for k in range(3):
                way, share = by_way(between(wall[k - 1], wall[k]))
                rows.append(((by_way(arrow)[0], way), share))
    return gathered(rows)


def added_sums(one, other):
    return gathered([(key, Fraction(*share)) for key, share in one + other])


def steps_of(heaps):
    """The steps by their words: over one bottom, the greatest common divisor of all edges' parts."""
    edges = [between(p, q) for heap in heaps for piece in heap for p, q in itertools.combinations(piece, 2)]
    found = []
    for parts in zip(*edges):
        bottom = 1
        for part in parts:
            bottom = bottom * part.denominator // gcd(bottom, part.denominator)
        found.append(Fraction(gcd(*[int(part * bottom) for part in parts]), bottom))
    return found


def width_of(one, other):
    """The two numbers of [20], lines and cells."""
    grid = steps_of((one, other))
    ways = set()
    for piece in one + other:
        for wall in itertools.combinations(piece, len(piece) - 1):
            edges = [[x / step for x, step in zip(between(wall[0], p), grid)] for p in wall[1:]]
            ways.add(by_way(edges[0] if len(edges) == 1 else across(*edges))[0])
    cells = sum(content(piece) for piece in one)
    for step in grid:
        cells /= step
    return sum(abs(number) for way in ways for number in way), (cells.numerator, cells.denominator)


def box_of(corner, *arrows):
    """A box, one simplex for each order of its arrows."""
    rows = []
    for order in itertools.permutations(arrows):
        row = [spot(*corner)]
        for arrow in order:
            row.append(goes(row[-1], 1, spot(*arrow)))
        rows.append(row)
    return heap_of(rows)


def prism_over(heap, arrow):
    rows = []
    for piece in heap:
        low = [p[:2] + (0,) + p[2:] for p in piece]
        ring = low + [goes(p, 1, spot(*arrow)) for p in low]
        rows += [ring[k:k + 4] for k in range(3)]
    return heap_of(rows)


def bar(x, y, far_x, far_y):
    """A flat box of two simplexes."""
    ends = (spot(x, y), spot(far_x, y), spot(far_x, far_y), spot(x, far_y))
    return heap_of([ends[:3], (ends[0],) + ends[2:]])


HALF_SQUARE = made((spot(0, 0), spot(1, 0), spot(0, 1)))
OTHER_HALF = made((spot(1, 0), spot(1, 1), spot(0, 1)))
SQUARE = (HALF_SQUARE, OTHER_HALF)
# The same square, parted by its other diagonal.
SQUARE_OTHERWISE = heap_of([(spot(0, 0), spot(1, 0), spot(1, 1)), (spot(0, 0), spot(1, 1), spot(0, 1))])
CORNER = made((spot(0, 0, 0), spot(1, 0, 0), spot(0, 1, 0), spot(0, 0, 1)))
CUBE_OF_SIX = heap_of(
    [
        [spot(*[1 if i in order[:k] else 0 for i in range(3)]) for k in range(4)]
        for order in itertools.permutations(range(3))
    ]
)
CUBE_OF_FIVE = heap_of(
    [
        (spot(0, 0, 0), spot(1, 0, 0), spot(0, 1, 0), spot(0, 0, 1)),
        (spot(1, 1, 0), spot(0, 1, 0), spot(1, 0, 0), spot(1, 1, 1)),
        (spot(1, 0, 1), spot(0, 0, 1), spot(1, 1, 1), spot(1, 0, 0)),
        (spot(0, 1, 1), spot(1, 1, 1), spot(0, 0, 1), spot(0, 1, 0)),
        (spot(1, 0, 0), spot(0, 1, 0), spot(0, 0, 1), spot(1, 1, 1)),
    ]
)
# Unlike bottoms, noughts and signs, and one that lies over another one.
FLAT_HEAP = heap_of(
    [
        (spot(0, 0), spot(2, "1/3"), spot("-1/2", 1)),
        (spot("1/2", "-3/4"), spot(3, 1), spot(1, "5/2")),
        (spot(0, 0), spot(2, "1/3"), spot("-1/2", 1)),
        (spot(-3, -2), spot("-7/5", "-2/7"), spot(-2, 1)),
    ]
)
SPACE_HEAP = heap_of(
    [
        (spot(0, 0, 0), spot(2, "1/3", 0), spot("-1/2", 1, "1/5"), spot(0, "1/2", 2)),
        (spot("1/2", "-3/4", 0), spot(3, 1, "-1/2"), spot(1, "5/2", 0), spot(1, 1, "7/3")),
        (spot(0, 0, 0), spot(2, "1/3", 0), spot("-1/2", 1, "1/5"), spot(0, "1/2", 2)),
        (spot(-3, -2, -1), spot("-7/5", "-2/7", 0), spot(-2, 1, 0), spot(-2, -1, "3/2")),
    ]
)
