"""Sums of edges by turns: [34] to [37], of [5] what speaks of them, and of [2] to [4] what holds for them."""

import itertools
import unittest
from fractions import Fraction

from kinds import CORNER, CUBE_OF_FIVE, CUBE_OF_SIX, FLAT_HEAP, HALF_SQUARE, SPACE_HEAP, added_sums, arguments, between
from kinds import box_of, by_way, gathered, heap_of, is_plain, lowest, made, moved_by, outward, point_of, prism_over
from kinds import pushed_by, spot, stretched, worths
from scissorhall.cuts import cut
from scissorhall.cuttings import comes_of, goes_to
from scissorhall.errors import HallError, TooSteep
from scissorhall.leading import led, pushed
from scissorhall.turns import never, turn_sum

LONG = 10 ** 39 + 7


def dot(u, v):
    return sum(a * b for a, b in zip(u, v))


def primes_of(number):
    found, prime = [], 2
    while number > 1:
        if number % prime == 0:
            found.append(prime)
            while number % prime == 0:
                number //= prime
        prime = prime + 1 if prime * prime <= number else max(number, prime + 1)
    return found


def five_things(piece, i, k):
    """u, v, m, s and t of the edge between two corners, by the words of [34]."""
    arrows = [lowest(arrow) for wall, arrow in outward(piece)]
    n1, n2 = [arrows[j] for j in range(4) if j not in (i, k)]
    d, t = by_way(between(piece[i], piece[k]))
    square = dot(d, d)
    s = max(j for j in range(1, int(square ** 0.5) + 2) if square % (j * j) == 0)
    (x1, y1, z1), (x2, y2, z2) = n1, n2
    row = [one * s for one in (y1 * z2 - z1 * y2, z1 * x2 - x1 * z2, x1 * y2 - y1 * x2)]
    v = abs([Fraction(a, b) for a, b in zip(row, d) if b][0])
    assert v.denominator == 1 and [abs(a) for a in row] == [v * abs(b) for b in d]
    return -dot(n1, n2), int(v), square // (s * s), s, abs(t)


def value_of(u, v, m, p):
    """By the words of [35], all roots tried."""
    while u % p == 0 and v % p == 0:
        u, v = u // p, v // p
    e, whole = 0, u * u + m * v * v
    while whole % p == 0:
        e, whole = e + 1, whole // p
    if e == 0:
        return 0
    roots = [r for r in range(1, (p + 1) // 2) if (r * r + m) % p == 0]
    assert len(roots) == 1
    return e if (u - roots[0] * v) % p == 0 else -e


def sum_of_turns(heap):
    rows = []
    for piece in heap:
        for i, k in itertools.combinations(range(4), 2):
            u, v, m, s, t = five_things(piece, i, k)
            for p in primes_of(u * u + m * v * v):
                if p > 2 and m % p:
                    rows.append(((m, p), t * s * value_of(u, v, m, p)))
    return gathered(rows)


def steepness(heap):
    numbers = [0]
    for piece in heap:
        for wall, arrow in outward(piece):
            numbers += lowest(arrow)
        for p, q in itertools.combinations(piece, 2):
            numbers += by_way(between(p, q))[0]
    return max(abs(number) for number in numbers)


def by_table(heap, table, arrow=(0, 0, 0)):
    """Each point's measures by the rows of a table, and pushed."""
    arrow = [Fraction(one) for one in arrow]
    rows = []
    for piece in heap:
        rows.append([point_of([dot(row, worths(p)) + one for row, one in zip(table, arrow)]) for p in piece])
    return heap_of(rows)


THREE, FOUR = Fraction(3, 5), Fraction(4, 5)
STIFF_TABLES = (
    ((0, 1, 0), (1, 0, 0), (0, 0, 1)),
    ((0, 0, 1), (1, 0, 0), (0, 1, 0)),
    ((-1, 0, 0), (0, 1, 0), (0, 0, 1)),
    ((-1, 0, 0), (0, -1, 0), (0, 0, -1)),
    ((0, -1, 0), (1, 0, 0), (0, 0, -1)),
    ((THREE, -FOUR, 0), (FOUR, THREE, 0), (0, 0, 1)),
    ((1, 0, 0), (0, FOUR, THREE), (0, THREE, -FOUR)),
    ((Fraction(1, 3), Fraction(2, 3), Fraction(2, 3)), (Fraction(2, 3), Fraction(1, 3), Fraction(-2, 3)),
     (Fraction(2, 3), Fraction(-2, 3), Fraction(1, 3))),
)


def body(*corners):
    return heap_of([[spot(*corner) for corner in corners]])


LEANING = body((0, 0, 0), (1, 0, 0), (1, 1, 0), (1, 1, 1))
MIDDLE = CUBE_OF_FIVE[-1:]
ODD = body((0, 0, 0), (3, 1, 0), (1, 2, -1), (0, 1, 4))
OTHER_ODD = body(("1/2", 0, 1), (2, "-1/3", 0), (0, 1, 1), (1, 1, "5/2"))
HEAPS = ((CORNER,), LEANING, MIDDLE, ODD, OTHER_ODD, (CORNER,) + ODD * 2, ODD + OTHER_ODD + LEANING)
LINES = ((1, 0, 0, 0), (2, -1, 0, -1), (1, 1, 1, -1), (0, 1, -2, 0), (3, 1, -1, -1))


class TurnCase(unittest.TestCase):
    def assert_too_steep(self, function, handed, number):
        with self.assertRaises(HallError) as caught:
            function(*handed)
        self.assertIs(type(caught.exception), TooSteep)
        self.assertEqual(caught.exception.number, number)
        self.assertTrue(is_plain(caught.exception.number))


class TurnSum(TurnCase):
    def test_arguments(self):
        self.assertEqual(arguments(turn_sum), ["heap"])
        self.assertEqual(arguments(never), ["one", "other"])

    def test_no_simplex(self):
        self.assertEqual(turn_sum(()), ())
        self.assertEqual(turn_sum([]), ())

    def test_the_corner_of_a_cube(self):
        # Three edges of length root 2 have a turn whose cosine and sine are to one another as 1 to root 2.
        self.assertEqual(five_things(CORNER, 1, 2)[:4], (1, 1, 2, 1))
        self.assertEqual(turn_sum((CORNER,)), (((2, 3), (3, 1)),))

    def test_the_middle_of_a_cube(self):
        # Six edges of length root 2; the turn's cosine is a third.
        self.assertEqual(turn_sum(MIDDLE), (((2, 3), (-12, 1)),))

    def test_a_body_that_leans(self):
        self.assertEqual(turn_sum(LEANING), ())

    def test_by_the_words(self):
        for heap in HEAPS:
            for kind in (list, tuple):
                self.assertEqual(turn_sum(kind(heap)), sum_of_turns(heap))
            self.assertTrue(is_plain(turn_sum(heap)))

    def test_many_simplexes_by_the_words(self):
        rows = []
        for k in range(60):
            numbers = [(k * (j + 5) * 7 + j * j * 3 + k // 5) % 7 - 3 for j in range(9)]
            rows.append([spot(0, 0, 0)] + [spot(*numbers[j:j + 3]) for j in (0, 3, 6)])
        heap = ()
        for row in rows:
            try:
                heap += (made(row),)
            except IndexError:
                continue
        self.assertGreater(len(heap), 40)
        self.assertLessEqual(steepness(heap), 300)
        for piece in heap:
            self.assertEqual(turn_sum((piece,)), sum_of_turns((piece,)))
        self.assertEqual(turn_sum(heap), sum_of_turns(heap))

    def test_ways_near_the_bound(self):
        heap = body(
            (0, 0, 0), (1, 0, 0), (0, 1, 0), (149, 150, 1),
        ) + body((0, 0, 0), (0, 17, 0), (0, 5, 16), (13, 1, 1))
        self.assertLessEqual(steepness(heap), 300)
        self.assertEqual(turn_sum(heap), sum_of_turns(heap))

    def test_put_together(self):
        for one, other in itertools.product(HEAPS, repeat=2):
            self.assertEqual(turn_sum(one + other), added_sums(turn_sum(one), turn_sum(other)))

    def test_cut_by_blades(self):
        for heap, line in itertools.product(HEAPS, LINES):
            front, rest = cut(heap, line)
            if steepness(front + rest) <= 300:
                self.assertEqual(added_sums(turn_sum(front), turn_sum(rest)), turn_sum(heap))
                self.assertEqual(turn_sum(front + rest), turn_sum(heap))
        front, rest = cut((CORNER,), LINES[0])
        self.assertEqual((front, rest), ((CORNER,), ()))

    def test_parted_otherwise(self):
        self.assertEqual(turn_sum(CUBE_OF_FIVE), turn_sum(CUBE_OF_SIX))
        self.assertEqual(turn_sum(CUBE_OF_FIVE), ())

    def test_stiff_moves(self):
        count = 0
        for heap, table in itertools.product(HEAPS, STIFF_TABLES):
            laid = by_table(heap, table, (1, "1/2", "-7/3"))
            if steepness(laid) <= 300:
                count += 1
                self.assertEqual(turn_sum(laid), turn_sum(heap))
        self.assertGreater(count, 40)
        for heap in HEAPS:
            self.assertEqual(turn_sum(pushed_by(heap, spot(LONG, 0, Fraction(1, LONG)))), turn_sum(heap))
            self.assertEqual(turn_sum(moved_by(heap, -1, spot(LONG, 0, Fraction(1, LONG)))), turn_sum(heap))

    def test_stretched_alike(self):
        # Twice as long, each sum is twice as great.
        for heap in HEAPS:
            told = tuple((key, Fraction(*share) * 2) for key, share in turn_sum(heap))
            self.assertEqual(turn_sum(stretched(heap, (2, 2, 2))), gathered(told))

    def test_prisms_and_boxes_have_none(self):
        for arrow in ((0, 0, 1), (1, "-1/2", 3), (0, 2, -1)):
            self.assertEqual(turn_sum(prism_over((HALF_SQUARE,), arrow)), ())
        self.assertEqual(turn_sum(prism_over(FLAT_HEAP[:1], (0, 0, 1))), ())
        for arrows in (
            ((1, 0, 0), (0, 1, 0), (0, 0, 1)), ((1, 2, 0), (0, 1, 3), (2, 0, 1)), ((1, 1, 1), (0, 1, 0), (5, 0, 3)),
        ):
            self.assertEqual(turn_sum(box_of((1, 2, 3), *arrows)), ())


class Steep(TurnCase):
    def test_just_at_the_bound_and_above(self):
        for number in (299, 300, 301, 302, LONG):
            edge = body((0, 0, 0), (number, 1, 0), (0, 1, 0), (0, 0, 1))
            self.assertEqual(steepness(edge), number)
            wall = body((0, 0, 0), (1, 0, 0), (0, number, 0), (0, 0, number))
            self.assertEqual(steepness(wall), number)
            for heap in (edge, wall, edge + (CORNER,), (CORNER,) + wall):
                if number <= 300:
                    self.assertEqual(turn_sum(heap), sum_of_turns(heap))
                else:
                    self.assert_too_steep(turn_sum, (heap,), number)
                    self.assert_too_steep(turn_sum, (list(heap),), number)

    def test_the_greatest_of_all(self):
        steep = body((0, 0, 0), (1, 0, 0), (0, 1, 0), (1000, 2000, 1))
        steeper = body((0, 0, 0), (1, 0, 0), (0, 1, 0), (-7, 5000, 3))
        for heap in (steep, steeper, steep + steeper, steeper + steep, (CORNER,) + steep, SPACE_HEAP + steeper):
            self.assert_too_steep(turn_sum, (heap,), steepness(heap))

    def test_numbers_below_nought_count_without_sign(self):
        heap = body((0, 0, 0), (1, -301, 0), (0, -1, 0), (0, 0, 1))
        self.assert_too_steep(turn_sum, (heap,), 301)

    def test_arrows_are_looked_at_in_lowest_terms(self):
        self.assertEqual(turn_sum(stretched((CORNER,), (LONG, LONG, LONG))), (((2, 3), (3 * LONG, 1)),))


class Never(TurnCase):
    def test_the_least_pair(self):
        for one, other in itertools.product(HEAPS + ((), CUBE_OF_SIX), repeat=2):
            first, second = dict(sum_of_turns(one)), dict(sum_of_turns(other))
            unlike = [key for key in set(first) | set(second) if first.get(key) != second.get(key)]
            for kinds in itertools.product((list, tuple), repeat=2):
                told = never(kinds[0](one), kinds[1](other))
                self.assertEqual(told, min(unlike) if unlike else None)

    def test_told(self):
        self.assertEqual(never((CORNER,), ()), (2, 3))
        self.assertEqual(never((), (CORNER,)), (2, 3))
        self.assertEqual(never((CORNER,) * 6, CUBE_OF_SIX), (2, 3))
        self.assertIsNone(never((), ()))
        self.assertIsNone(never(LEANING * 6, CUBE_OF_SIX))
        self.assertIsNone(never((CORNER,) * 4 + MIDDLE, CUBE_OF_SIX))
        self.assertIsNone(never((CORNER,), moved_by((CORNER,), -1, spot(1, 2, 3))))

    def test_a_sum_that_differs_in_its_number_alone(self):
        self.assertEqual(never((CORNER,), (CORNER,) * 2), (2, 3))

    def test_refused_as_the_first_is_else_as_the_second(self):
        steep = body((0, 0, 0), (1, 0, 0), (0, 1, 0), (1000, 2000, 1))
        steeper = body((0, 0, 0), (301, 1, 0), (0, 1, 0), (0, 0, 1))
        self.assert_too_steep(never, (steep, (CORNER,)), steepness(steep))
        self.assert_too_steep(never, ((CORNER,), steep), steepness(steep))
        self.assert_too_steep(never, (steep, steeper), steepness(steep))
        self.assert_too_steep(never, (steeper, steep), 301)
        self.assert_too_steep(never, (steeper, ()), 301)
        self.assert_too_steep(never, ((), steeper), 301)


class Whole(TurnCase):
    def test_what_is_led_has_one_sum(self):
        pairs = (
            (CUBE_OF_SIX, CUBE_OF_FIVE),
            ((CORNER,) * 2, moved_by((CORNER,), -1, spot(1, 0, 0)) * 2),
            (prism_over((HALF_SQUARE,), (0, 0, 2)), CUBE_OF_SIX),
            (CUBE_OF_SIX + (CORNER,), (CORNER,) + box_of((0, 0, 0), (1, 0, 0), (0, 1, 0), (1, 1, 1))),
        )
        for one, other in pairs:
            cutting = led(one, other)
            self.assertEqual(turn_sum(one), turn_sum(other))
            self.assertIsNone(never(one, other))
            if steepness(comes_of(cutting) + goes_to(cutting)) <= 300:
                self.assertEqual(turn_sum(comes_of(cutting)), turn_sum(one))
                self.assertEqual(turn_sum(goes_to(cutting)), turn_sum(one))
        cutting = pushed(CUBE_OF_SIX, CUBE_OF_FIVE)
        self.assertEqual(turn_sum(goes_to(cutting)), ())

    def test_what_is_handed_in_stays(self):
        heap = list(ODD + OTHER_ODD)
        told = turn_sum(heap)
        self.assertEqual(heap, list(ODD + OTHER_ODD))
        heap.pop()
        self.assertEqual(turn_sum(ODD + OTHER_ODD), told)


if __name__ == "__main__":
    unittest.main()
