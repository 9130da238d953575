"""Exact fractions: tuples (top, bottom) of whole numbers, bottom 1 or more, in lowest terms."""

from tilefall.errors import NoNumber


def is_whole(thing):
    # To Python True and False are ints as well.
    return isinstance(thing, int) and not isinstance(thing, bool)


def common_divisor(one, other):
    while other != 0:
        rest = one % other
        one = other
        other = rest
    return abs(one)


def is_fraction(thing):
    if not isinstance(thing, tuple) or len(thing) != 2:
        return False
    if not is_whole(thing[0]) or not is_whole(thing[1]):
        return False
    return thing[1] >= 1 and common_divisor(thing[0], thing[1]) == 1


def fraction(top, bottom=1):
    if not is_whole(top) or not is_whole(bottom):
        raise NoNumber("a fraction is made of whole numbers")
    if bottom == 0:
        raise NoNumber("a fraction's bottom is not 0")
    divisor = common_divisor(top, bottom)
    if bottom < 0:
        # A divisor below 0 moves the sign to the top.
        divisor = -divisor
    return (top // divisor, bottom // divisor)


def added(one, other):
    # Only what both bottoms share can divide the sum: a great sum and a small time stay quick to add.
    shared = common_divisor(one[1], other[1])
    part = other[1] // shared
    top = one[0] * part + other[0] * (one[1] // shared)
    divisor = common_divisor(top, shared)
    return (top // divisor, one[1] // divisor * part)


def lessened(one, other):
    return added(one, (-other[0], other[1]))


def timed(one, other):
    return fraction(one[0] * other[0], one[1] * other[1])


def divided(one, other):
    # By (0, 1) the bottom comes to 0, which is refused there.
    return fraction(one[0] * other[1], one[1] * other[0])


def is_less(one, other):
    return one[0] * other[1] < other[0] * one[1]


def is_moment(thing):
    return is_fraction(thing) and thing[0] >= 0


# Over one common bottom fractions compare and add up as their tops do.
def whole_tops(fractions):
    bottom = 1
    for each in fractions:
        bottom = bottom // common_divisor(bottom, each[1]) * each[1]
    return [each[0] * (bottom // each[1]) for each in fractions]


# Things that have like fractions stay in the order in which they came.
def sorted_by(fractions, things):
    pairs = sorted(zip(whole_tops(fractions), things), key=lambda pair: pair[0])
    return [pair[1] for pair in pairs]
