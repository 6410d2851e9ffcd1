"""Walks, prisms, pyramids and boxes: [29] to [33], and of [27] and [2] to [4] what holds for them."""

import itertools
import unittest
from fractions import Fraction

from kinds import CUBE_OF_SIX, FLAT_HEAP, HALF_SQUARE, OTHER_HALF, SQUARE, amidst, arguments, content, goes, heap_of
from kinds import is_plain, is_simplex, made, point_of, spot, stand, worths
from scissorhall.errors import Backward, Flat, HallError, OnSide
from scissorhall.heaps import count_at, same, size
from scissorhall.solids import box, prism, pyramid, walked
from scissorhall.sums import edge_sums, side_sums, wall_sums

LONG = 10 ** 39 + 7
TINY = Fraction(1, LONG)
# Several points of one field, as some of them may lie on borders between simplexes.
SHARES = [(Fraction(a, 101), Fraction(b, 103)) for a, b in ((50, 41), (17, 88), (71, 7), (33, 60))]


def ring_of(*rows):
    return [spot(*row) for row in rows]


def around(ring, p):
    """How often the ring goes round p to the left, by the crossings of a ray; None where p lies on the ring."""
    x, y = worths(p)
    count = 0
    for k in range(len(ring)):
        (ax, ay), (bx, by) = worths(ring[k - 1]), worths(ring[k])
        turn = (bx - ax) * (y - ay) - (by - ay) * (x - ax)
        if turn == 0 and min(ax, bx) <= x <= max(ax, bx) and min(ay, by) <= y <= max(ay, by):
            return None
        if ay <= y < by and turn > 0:
            count += 1
        elif by <= y < ay and turn < 0:
            count -= 1
    return count


def stretches(ring):
    pairs = [(worths(ring[k - 1]), worths(ring[k])) for k in range(len(ring))]
    return [sorted(pair) for pair in pairs if pair[0] != pair[1]]


def turning_points(ring):
    """All first measures at which the order of the stretches may change."""
    found = {x for (x, y), far in stretches(ring)} | {far[0] for near, far in stretches(ring)}
    for ((ax, ay), (bx, by)), ((cx, cy), (dx, dy)) in itertools.combinations(stretches(ring), 2):
        turn = (bx - ax) * (dy - cy) - (by - ay) * (dx - cx)
        if turn:
            share = ((cx - ax) * (dy - cy) - (cy - ay) * (dx - cx)) / turn
            found.add(ax + share * (bx - ax))
    return sorted(found)


def height_at(stretch, x):
    (ax, ay), (bx, by) = stretch
    return ay + (x - ax) / (bx - ax) * (by - ay)


def fields(ring):
    """For each field between the stretches of the ring some points of it; all fields are there."""
    ends = turning_points(ring)
    for low, high in zip(ends, ends[1:]):
        over = [one for one in stretches(ring) if one[0][0] <= low and high <= one[1][0]]
        rows = []
        for share, other in SHARES:
            x = low + share * (high - low)
            heights = sorted({height_at(one, x) for one in over})
            rows.append([point_of([x, a + other * (b - a)]) for a, b in zip(heights, heights[1:])])
        yield from zip(*rows)


def area_of(ring):
    area = Fraction(0)
    for k in range(len(ring)):
        (ax, ay), (bx, by) = worths(ring[k - 1]), worths(ring[k])
        area += (ax * by - ay * bx) / 2
    return area


class WalkCase(unittest.TestCase):
    def assert_walked(self, ring):
        """All that [29] tells of a ring that isn't refused."""
        heap = walked(ring)
        self.assertIs(type(heap), tuple)
        self.assertTrue(is_plain(heap))
        self.assertTrue(all(is_simplex(piece) for piece in heap))
        self.assertEqual(sum(content(piece) for piece in heap), area_of(ring))
        for points in fields(ring):
            self.assert_counted(heap, points, around(ring, points[0]))
        self.assertIs(same(walked(list(ring)), heap), True)
        self.assertIs(same(walked(tuple(ring)), heap), True)
        return heap

    def assert_counted(self, heap, points, expected):
        for p in points:
            try:
                self.assertEqual(count_at(heap, p), expected)
                return
            except OnSide:
                continue
        self.fail(points)

    def assert_backward(self, ring):
        self.assertLess(min(around(ring, points[0]) for points in fields(ring)), 0)
        for kind in (list, tuple):
            with self.assertRaises(HallError) as caught:
                walked(kind(ring))
            self.assertIs(type(caught.exception), Backward)

    def assert_told(self, ring):
        """Refused just where some point has a number below 0; True where it isn't."""
        lowest = min([around(ring, points[0]) for points in fields(ring)], default=0)
        if lowest < 0:
            self.assert_backward(ring)
        else:
            self.assert_walked(ring)
        return lowest >= 0


class Walked(WalkCase):
    def test_arguments(self):
        self.assertEqual(arguments(walked), ["ring"])

    def test_nothing_to_go_round(self):
        a, b, c, d = ring_of((0, 0), (2, 1), (4, 2), ("-2/3", "-1/3"))
        for ring in ((), (a,), (a, a), (a, b), (a, b, a), (a, b, c), (a, c, b, d), (a, a, b, b, c), (c, d, a, b, b, d)):
            self.assertEqual(walked(ring), ())
            self.assertEqual(walked(list(ring)), ())
        self.assertEqual(walked(ring_of((1, 5), (1, -2), (1, "1/3"))), ())
        self.assertEqual(walked(ring_of((1, 5), (LONG, 5), (TINY, 5))), ())

    def test_one_simplex(self):
        ring = list(HALF_SQUARE)
        for k in range(3):
            self.assertEqual(walked(ring[k:] + ring[:k]), (HALF_SQUARE,))
        self.assert_backward(ring[::-1])

    def test_convex_rings_begun_anywhere_and_gone_often(self):
        ring = ring_of((0, 0), (3, 0), (5, 2), (4, "9/2"), (1, 5), (-1, "5/2"))
        whole = walked(ring)
        self.assertEqual(len(whole), 4)
        for times in (1, 2, 3, 5):
            for k in range(len(ring)):
                heap = self.assert_walked((ring[k:] + ring[:k]) * times)
                self.assertIs(same(heap, whole * times), True)
        self.assert_backward(ring[::-1])
        self.assert_backward(ring[::-1] * 3)

    def test_points_twice_amid_sides_and_spikes(self):
        square = ring_of((0, 0), (1, 0), (1, 1), (0, 1))
        rings = (
            ring_of((0, 0), (0, 0), (1, 0), (1, 1), (1, 1), (1, 1), (0, 1), (0, 0)),
            ring_of((0, 0), ("1/2", 0), (1, 0), (1, "1/3"), (1, "2/3"), (1, 1), (0, 1), (0, "1/2")),
            ring_of((0, 0), (1, 0), (5, 0), (1, 0), (1, 1), (1, 3), (1, 1), (0, 1), (0, 0), (-3, 0)),
            ring_of((0, 0), (1, 0), (1, 1), (3, 3), (7, -5), (3, 3), (1, 1), (0, 1)),
            ring_of((0, 0), (1, 0), (1, 1), ("1/2", "1/2"), (1, 1), (0, 1), (0, 0), (1, 1)),
        )
        for ring in rings:
            for k in range(len(ring)):
                self.assertIs(same(self.assert_walked(ring[k:] + ring[:k]), walked(square)), True)
            self.assert_backward(ring[::-1])

    def test_rings_with_corners_that_turn_right(self):
        arrow = ring_of((0, 0), (4, 2), (0, 4), (1, 2))
        comb = ring_of((0, 0), (7, 0), (7, 3), (6, 3), (6, 1), (5, 1), (5, 3), (3, 3), (3, 1), (2, 2), (1, 1), (0, 4))
        spiral = ring_of(
            (0, 0), (6, 0), (6, 6), (0, 6), (0, 2), (4, 2), (4, 4), (2, 4), (2, 3), (3, 3), (1, "5/2"), (1, 5), (5, 5),
            (5, 1), (0, 1),
        )
        for ring in (arrow, comb, spiral):
            for k in range(len(ring)):
                self.assert_walked(ring[k:] + ring[:k])
            self.assert_backward(ring[::-1])

    def test_rings_that_cross_themselves(self):
        # A star goes twice round its middle, a bow tie backward round one half.
        star = ring_of((0, 10), (-6, -8), (9, 3), (-9, 3), (6, -8))
        self.assert_walked(star)
        self.assert_backward(star[::-1])
        bow = ring_of((0, 0), (1, 1), (1, 0), (0, 1))
        self.assert_backward(bow)
        self.assert_backward(bow[::-1])
        loop = ring_of((0, 0), (6, 0), (6, 6), (4, 6), (4, -2), (8, -2), (8, 8), (0, 8))
        self.assert_walked(loop)
        self.assert_backward(loop[::-1])

    def test_a_loop_to_the_right_within_one_to_the_left(self):
        wide = ring_of((0, 0), (9, 0), (9, 9), (0, 9))
        hole = ring_of((3, 3), (3, 6), (6, 6), (6, 3))
        ring = wide + wide[:1] + hole + hole[:1]
        self.assert_walked(ring)
        self.assert_backward(wide + wide[:1] + hole * 2 + hole[:1])
        self.assert_walked(wide * 2 + wide[:1] + hole * 2 + hole[:1])
        self.assert_backward(wide + wide[:1] + ring_of((3, 3), (3, 10), (6, 10), (6, 3), (3, 3)))

    def test_two_parts_apart(self):
        ring = ring_of((0, 0), (1, 0), (1, 1), (0, 0), (5, 5), (6, 5), (6, 6), (5, 5))
        self.assert_walked(ring)
        self.assert_backward(ring[:4] + ring[4:][::-1])

    def test_many_small_rings(self):
        kept = 0
        for k in range(240):
            count = 3 + k % 7
            xs = [(k * (j + 3) * 7 + j * j * 5) % 11 - 5 for j in range(count)]
            ys = [(k * (2 * j + 1) + j * 17 + k // 7) % 9 - 4 for j in range(count)]
            ring = ring_of(*zip(xs, ys))
            if k % 3:
                ring += ring_of((-6, -6), (7, -6), (7, 6), (-6, 6)) * (k % 3)
            kept += self.assert_told(ring)
        self.assertGreater(kept, 60)
        self.assertLess(kept, 200)

    def test_a_hundred_points(self):
        ring = ring_of(*[(k, k * k) for k in range(100)])
        self.assertEqual(len(walked(ring)), 98)
        self.assertRaises(Backward, walked, ring[::-1])
        star = [ring[37 * k % 100] for k in range(100)]
        heap = walked(star)
        self.assertEqual(sum(content(piece) for piece in heap), area_of(star))
        self.assertRaises(Backward, walked, star[::-1])
        zigzag = ring_of(*[(k, 5 if k % 2 else 0) for k in range(97)], (96, 9), (0, 9))
        heap = walked(zigzag)
        self.assertEqual(sum(content(piece) for piece in heap), area_of(zigzag))
        crossing = ring_of(*[((k * 37) % 101 - 50, (k * k * 29) % 97 - 48) for k in range(40)])
        crossing += ring_of((-60, -60), (60, -60), (60, 60), (-60, 60)) * 12
        self.assertEqual(size(walked(crossing)), (area_of(crossing).numerator, area_of(crossing).denominator))

    def test_great_numbers(self):
        ring = ring_of((LONG, TINY), (-LONG, "1/3"), (5, -LONG), (3, LONG), (TINY, TINY), (7, -TINY))
        for turned in (ring, ring[::-1]):
            self.assert_told(turned)
        ring = ring_of((0, 0), (10 ** 129, 1), (1, 10 ** 129), (Fraction(1, 10 ** 128), 5))
        self.assert_told(ring)

    def test_what_is_handed_in_stays(self):
        ring = ring_of((0, 0), (0, 0), (1, 0), (1, 1), (0, 1), (0, 1))
        kept = list(ring)
        heap = walked(ring)
        self.assertEqual(ring, kept)
        ring.reverse()
        self.assertIs(same(heap, SQUARE), True)
        self.assertRaises(Backward, walked, ring)
        self.assertIs(same(walked(kept), SQUARE), True)


def raised(p):
    return p[:2] + (0,) + p[2:]


ARROWS = ((0, 0, 1), (0, 0, -1), (1, 2, 3), ("-1/2", "7/3", "-5/4"), (LONG, -LONG, TINY), (0, "1/9", -LONG))


class SolidCase(unittest.TestCase):
    def assert_flat(self, function, *handed):
        with self.assertRaises(HallError) as caught:
            function(*handed)
        self.assertIs(type(caught.exception), Flat)


class Prisms(SolidCase):
    def test_arguments(self):
        self.assertEqual(arguments(prism), ["heap", "arrow"])
        self.assertEqual(arguments(pyramid), ["heap", "top"])
        self.assertEqual(arguments(box), ["corner", "arrows"])

    def test_the_very_simplexes(self):
        for arrow, heap in itertools.product(ARROWS, ((HALF_SQUARE,), SQUARE, FLAT_HEAP, FLAT_HEAP[::-1])):
            rows = []
            for p, q, r in heap:
                low = [raised(one) for one in (p, q, r)]
                high = [goes(one, 1, spot(*arrow)) for one in low]
                rows += [low + high[:1], low[1:] + high[:2], low[2:] + high]
            for handed in (list(heap), tuple(heap)):
                told = prism(handed, spot(*arrow))
                self.assertEqual(told, heap_of(rows))
                self.assertTrue(is_plain(told))

    def test_no_simplex(self):
        for arrow in ARROWS:
            self.assertEqual(prism((), spot(*arrow)), ())
            self.assertEqual(pyramid([], spot(*arrow)), ())

    def test_counts(self):
        # A square upright and slanted: within between the lower and the upper face, and nowhere else.
        for arrow in ((0, 0, 2), (3, 1, 2), (-1, 2, -2)):
            heap = prism(SQUARE, spot(*arrow))
            for x, y, t in itertools.product((-1, 3, 7, 13), (-1, 2, 7, 12), (-1, 1, 4, 8, 12)):
                base = (Fraction(x, 10), Fraction(y, 11), 0)
                share = Fraction(t, 9)
                p = spot(*[a + share * b for a, b in zip(base, arrow)])
                expected = 1 if 0 < base[0] < 1 and 0 < base[1] < 1 and 0 < share < 1 else 0
                self.assertEqual(count_at(heap, p), expected)

    def test_flat(self):
        for arrow in ((0, 0, 0), (1, 2, 0), (LONG, TINY, 0)):
            for heap in ((), [], (HALF_SQUARE,), FLAT_HEAP):
                self.assert_flat(prism, heap, spot(*arrow))

    def test_size(self):
        for arrow, heap in itertools.product(ARROWS, ((), (HALF_SQUARE,), FLAT_HEAP)):
            expected = sum(content(piece) for piece in heap) * abs(Fraction(arrow[2]))
            self.assertEqual(Fraction(*size(prism(heap, spot(*arrow)))), expected)

    def test_sums(self):
        for arrow, heap in itertools.product(ARROWS, ((HALF_SQUARE,), FLAT_HEAP)):
            self.assertEqual(edge_sums(prism(heap, spot(*arrow))), ())

    def test_the_heap_parted_otherwise(self):
        parted = heap_of([(spot(0, 0), spot(1, 0), spot(1, 1)), (spot(0, 0), spot(1, 1), spot(0, 1))])
        self.assertIs(same(prism(SQUARE, spot(1, 2, 3)), prism(parted, spot(1, 2, 3))), True)
        self.assertIs(same(pyramid(SQUARE, spot(1, 2, 3)), pyramid(parted, spot(1, 2, 3))), True)

    def test_what_is_handed_in_stays(self):
        heap = list(FLAT_HEAP)
        for function in (prism, pyramid):
            told = function(heap, spot(1, 2, 3))
            self.assertEqual(heap, list(FLAT_HEAP))
            heap.pop()
            self.assertEqual(function(FLAT_HEAP, spot(1, 2, 3)), told)
            heap = list(FLAT_HEAP)


class Pyramids(SolidCase):
    def test_the_very_simplexes(self):
        for top, heap in itertools.product(ARROWS, ((HALF_SQUARE,), SQUARE, FLAT_HEAP, FLAT_HEAP[::-1])):
            expected = heap_of([[raised(p) for p in piece] + [spot(*top)] for piece in heap])
            for handed in (list(heap), tuple(heap)):
                told = pyramid(handed, spot(*top))
                self.assertEqual(told, expected)
                self.assertTrue(is_plain(told))

    def test_counts(self):
        for top in ((0, 0, 2), (3, 1, 2), (-1, 2, -2)):
            heap = pyramid(SQUARE, spot(*top))
            for x, y, t in itertools.product((-1, 3, 7, 13), (-1, 2, 7, 12), (-1, 1, 4, 8)):
                base = (Fraction(x, 10), Fraction(y, 11), 0)
                share = Fraction(t, 9)
                p = spot(*[a + share * (b - a) for a, b in zip(base, top)])
                expected = 1 if 0 < base[0] < 1 and 0 < base[1] < 1 and 0 < share < 1 else 0
                self.assertEqual(count_at(heap, p), expected)

    def test_flat(self):
        for top in ((0, 0, 0), (1, 2, 0), (LONG, TINY, 0)):
            for heap in ((), [], (HALF_SQUARE,), FLAT_HEAP):
                self.assert_flat(pyramid, heap, spot(*top))

    def test_size(self):
        for top, heap in itertools.product(ARROWS, ((), (HALF_SQUARE,), FLAT_HEAP)):
            expected = sum(content(piece) for piece in heap) * abs(Fraction(top[2])) / 3
            self.assertEqual(Fraction(*size(pyramid(heap, spot(*top)))), expected)


class Boxes(SolidCase):
    def assert_box(self, corner, arrows, orders):
        rows = []
        for order in orders:
            row = [spot(*corner)]
            for k in order:
                row.append(goes(row[-1], 1, spot(*arrows[k])))
            rows.append(made(row))
        told = box(spot(*corner), tuple(spot(*arrow) for arrow in arrows))
        self.assertEqual(told, tuple(rows))
        self.assertTrue(is_plain(told))
        return told

    def test_flat_boxes(self):
        for arrows in (((1, 0), (0, 1)), ((0, 1), (1, 0)), ((2, 1), ("-1/3", 5)), ((-LONG, 1), (TINY, TINY))):
            for corner in ((0, 0), ("1/2", -3), (LONG, TINY)):
                told = self.assert_box(corner, arrows, ((0, 1), (1, 0)))
                self.assertEqual(side_sums(told), ())
                (a, b), (c, d) = [[Fraction(x) for x in arrow] for arrow in arrows]
                self.assertEqual(Fraction(*size(told)), abs(a * d - b * c))
        self.assertEqual(box(spot(0, 0), (spot(1, 0), spot(0, 1))), (
            made((spot(0, 0), spot(1, 0), spot(1, 1))),
            made((spot(0, 0), spot(0, 1), spot(1, 1))),
        ))

    def test_boxes_in_space(self):
        orders = ((0, 1, 2), (0, 2, 1), (1, 0, 2), (1, 2, 0), (2, 0, 1), (2, 1, 0))
        tables = (
            ((1, 0, 0), (0, 1, 0), (0, 0, 1)),
            ((0, 0, -1), (0, 1, 0), (1, 0, 0)),
            ((2, 1, "1/3"), (0, -1, 5), (4, "1/7", 0)),
            ((-LONG, 1, 0), (TINY, TINY, 2), (0, 0, -3)),
        )
        for arrows in tables:
            for corner in ((0, 0, 0), ("1/2", -3, 7)):
                told = self.assert_box(corner, arrows, orders)
                self.assertEqual((wall_sums(told), edge_sums(told)), ((), ()))
        self.assertEqual(box(spot(0, 0, 0), (spot(1, 0, 0), spot(0, 1, 0), spot(0, 0, 1))), CUBE_OF_SIX)

    def test_counts(self):
        arrows = ((2, 1), (-1, 3))
        heap = box(spot(1, 1), tuple(spot(*arrow) for arrow in arrows))
        for s, t in itertools.product((-1, 2, 7, 12), (-1, 3, 5, 13)):
            p = spot(*[1 + Fraction(s, 10) * a + Fraction(t, 11) * b for a, b in zip(*arrows)])
            self.assertEqual(count_at(heap, p), 1 if 0 < s < 10 and 0 < t < 11 else 0)

    def test_flat(self):
        for arrows in (((1, 2), (2, 4)), ((1, 2), (0, 0)), ((0, 0), (0, 0)), ((LONG, 1), (-LONG, -1))):
            self.assert_flat(box, spot(3, 1), tuple(spot(*arrow) for arrow in arrows))
        tables = (
            ((1, 2, 3), (2, 4, 6), (0, 0, 1)),
            ((1, 0, 0), (0, 1, 0), (5, 7, 0)),
            ((1, 0, 0), (0, 1, 0), (0, 0, 0)),
            ((1, 1, 0), (0, 1, 1), (1, 2, 1)),
            ((0, 0, 0), (0, 0, 0), (0, 0, 0)),
        )
        for arrows in tables:
            for order in itertools.permutations(arrows):
                self.assert_flat(box, spot(3, 1, "1/2"), tuple(spot(*arrow) for arrow in order))


class Reckoning(unittest.TestCase):
    def test_the_tests_own_reckoning(self):
        self.assertEqual(around(list(HALF_SQUARE) * 2, spot("1/4", "1/4")), 2)
        self.assertEqual(around(list(HALF_SQUARE)[::-1], spot("1/4", "1/4")), -1)
        self.assertEqual(around(list(HALF_SQUARE), spot("1/2", "1/2")), None)
        self.assertEqual(len(list(fields(list(HALF_SQUARE)))), 1)
        self.assertEqual(stand(OTHER_HALF, amidst(OTHER_HALF)), 1)


if __name__ == "__main__":
    unittest.main()
