"""Whole numbers, and fractions: pairs (upper, lower) that can't be made less."""


def is_whole(thing):
    # Python counts truths among its ints; here they are no numbers.
    return isinstance(thing, int) and not isinstance(thing, bool)


def is_tuple_of(length, thing):
    return isinstance(thing, tuple) and len(thing) == length


def common_divisor(one, other):
    while other != 0:
        rest = one % other
        one = other
        other = rest
    return abs(one)


def is_lowest(upper, lower):
    return lower >= 1 and common_divisor(upper, lower) == 1


def is_fraction(thing):
    if not is_tuple_of(2, thing):
        return False
    if not all([is_whole(part) for part in thing]):
        return False
    return is_lowest(thing[0], thing[1])


def lowest(upper, lower):
    divisor = common_divisor(upper, lower)
    return (upper // divisor, lower // divisor)


def added(one, other):
    return lowest(one[0] * other[1] + other[0] * one[1], one[1] * other[1])


def opposite(fraction):
    return (-fraction[0], fraction[1])


def whole_part(fraction):
    return fraction[0] // fraction[1]


def lies_between(fraction, begin, end):
    # Begin and end are whole; begin itself lies between, end doesn't, as with the edges of a piece.
    lower = fraction[1]
    return begin * lower <= fraction[0] < end * lower
