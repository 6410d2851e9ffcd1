"""Whole numbers' common divisors, and fractions as tuples (top, bottom) in lowest terms."""

from scissorhall.errors import NoNumber


def sign(number):
    if number > 0:
        return 1
    if number < 0:
        return -1
    return 0


def divisor(one, other):
    while other != 0:
        rest = one % other
        one = other
        other = rest
    return abs(one)


def reduced(numbers):
    common = 0
    for number in numbers:
        common = divisor(common, number)
    return [number // common for number in numbers]


def lowest_way(numbers):
    # A way and the same gone backward are one: the first number that is not nought tells the sign.
    first = [number for number in numbers if number != 0][0]
    return tuple([sign(first) * number for number in reduced(numbers)])


def fraction(top, bottom=1):
    if bottom == 0:
        raise NoNumber("the bottom of a fraction is 0")
    # With the bottom's sign, the divisor leaves a bottom above 0.
    common = sign(bottom) * divisor(top, bottom)
    return (top // common, bottom // common)


def plus(one, other):
    return fraction(one[0] * other[1] + other[0] * one[1], one[1] * other[1])


def total(parts):
    # Two by two, as long bottoms cost the more the earlier they come together.
    while len(parts) > 1:
        pairs = [plus(one, other) for one, other in zip(parts[::2], parts[1::2])]
        parts = pairs + parts[2 * len(pairs):]
    return parts[0] if parts else (0, 1)


def minus(one, other):
    return fraction(one[0] * other[1] - other[0] * one[1], one[1] * other[1])


def times(one, other):
    return fraction(one[0] * other[0], one[1] * other[1])


def divided(one, other):
    # Nought to divide by makes a bottom of 0, which fraction refuses.
    return fraction(one[0] * other[1], one[1] * other[0])


def ranked(one, other):
    # Both bottoms are above 0, so the tops over one bottom stand in the fractions' order.
    return sign(one[0] * other[1] - other[0] * one[1])


def shared(one, other):
    # Over one bottom, whole multiples of a fraction are those of its top.
    return fraction(divisor(one[0] * other[1], other[0] * one[1]), one[1] * other[1])
