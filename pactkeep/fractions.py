"""Whole numbers, and fractions: pairs (upper, lower) without a common divisor above 1, lower from 1 on."""


def is_whole(thing):
    # Python counts the truths among the ints, the document doesn't.
    return isinstance(thing, int) and not isinstance(thing, bool)


def common_divisor(one, other):
    greater = abs(one)
    smaller = abs(other)
    while smaller != 0:
        rest = greater % smaller
        greater = smaller
        smaller = rest
    return greater


def is_fraction(thing):
    if not isinstance(thing, tuple) or len(thing) != 2:
        return False
    upper = thing[0]
    lower = thing[1]
    return is_whole(upper) and is_whole(lower) and lower >= 1 and common_divisor(upper, lower) == 1


def lowest(upper, lower):
    # A lower of 0 fails here, so that no pair comes out that is no fraction.
    sign = lower // abs(lower)
    divisor = sign * common_divisor(upper, lower)
    return (upper // divisor, lower // divisor)


def is_less(one, other):
    # Both lowers are above 0, so that multiplying by them keeps the order.
    return one[0] * other[1] < other[0] * one[1]
