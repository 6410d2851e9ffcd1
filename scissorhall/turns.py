"""Sums of edges by turns, which no cut and no stiff move changes."""

from scissorhall.errors import TooSteep
from scissorhall.lowest import fraction, reduced, times
from scissorhall.points import dot, normal, whole_arrow
from scissorhall.simplexes import walls
from scissorhall.sums import least_unlike, side_share, summed

STEEPEST = 300
# Each edge by its two corners, and by the two walls between which it lies; a wall has the number of the corner that it
# does not hold.
EDGES = ((0, 1, 2, 3), (0, 2, 1, 3), (0, 3, 1, 2), (1, 2, 0, 3), (1, 3, 0, 2), (2, 3, 0, 1))


class Frame:
    def __init__(self, piece):
        # The walls' arrows, which lead out of the simplex, in lowest whole numbers, and the edges by their ways.
        self.arrows = [reduced(normal([whole_arrow(wall[0], p) for p in wall[1:]])) for wall in walls(piece)]
        self.shares = [side_share(piece[edge[0]], piece[edge[1]]) for edge in EDGES]

    def steepness(self):
        rows = self.arrows + [share[0] for share in self.shares]
        return max([max([abs(number) for number in row]) for row in rows])


def odd_primes(number):
    found = []
    while number % 2 == 0:
        number = number // 2
    prime = 3
    while prime * prime <= number:
        if number % prime == 0:
            found.append(prime)
        while number % prime == 0:
            number = number // prime
        prime += 2
    return found + [number] if number > 1 else found


def without_squares(number):
    # The number is m s s, and no square above 1 divides m.
    root = 1
    factor = 2
    while factor * factor <= number:
        while number % (factor * factor) == 0:
            number = number // (factor * factor)
            root = root * factor
        factor += 1
    return (number, root)


def inverse(number, prime):
    # By the steps of Euclid, with how many times the number each rest is, but for multiples of the prime.
    rest = number % prime
    share = 1
    last = prime
    last_share = 0
    while rest != 1:
        count = last // rest
        rest_after = last - count * rest
        share_after = last_share - count * share
        last = rest
        last_share = share
        rest = rest_after
        share = share_after
    return share % prime


def value_at(u, v, m, prime):
    while u % prime == 0 and v % prime == 0:
        u = u // prime
        v = v // prime
    whole = u * u + m * v * v
    count = 0
    while whole % prime == 0:
        whole = whole // prime
        count += 1
    if count == 0:
        return 0
    # The prime divides u - r v for r = u / v, and r r + m; the other such r is the prime less this one.
    return count if 2 * (u * inverse(v, prime) % prime) < prime else -count


def edge_rows(share, one, other, primes):
    way = share[0]
    found = without_squares(dot(way, way))
    m = found[0]
    s = found[1]
    place = [k for k in range(3) if way[k] != 0][0]
    u = -dot(one, other)
    v = abs(normal([one, other])[place] // way[place]) * s
    length = fraction(abs(share[1][0]) * s, share[1][1])
    rows = []
    for prime in primes:
        if m % prime != 0:
            rows.append(((m, prime), times(length, (value_at(u, v, m, prime), 1))))
    return rows


def frame_rows(frame):
    primes = [odd_primes(dot(arrow, arrow)) for arrow in frame.arrows]
    rows = []
    for edge, share in zip(EDGES, frame.shares):
        one = edge[2]
        other = edge[3]
        # The product of both arrows' squares is u u + m v v: no other primes divide this.
        both = sorted(set(primes[one] + primes[other]))
        rows += edge_rows(share, frame.arrows[one], frame.arrows[other], both)
    return rows


def turn_sum(heap):
    frames = [Frame(piece) for piece in heap]
    steepest = max([frame.steepness() for frame in frames], default=0)
    if steepest > STEEPEST:
        raise TooSteep(steepest)
    rows = []
    for frame in frames:
        rows += frame_rows(frame)
    return summed(rows)


def never(one, other):
    return least_unlike(turn_sum(one), turn_sum(other))
