"""Exact ratios: tuples (top, bottom) in lowest terms, the bottom from 1 on."""

from surebook.errors import NoRatio

NOUGHT = (0, 1)
ONE = (1, 1)


def is_whole(value):
    # Python counts True and False among its ints; here they are no numbers.
    return isinstance(value, int) and not isinstance(value, bool)


def common_divisor(one, other):
    while other != 0:
        rest = one % other
        one = other
        other = rest
    return abs(one)


def lowest(top, bottom):
    divisor = common_divisor(top, bottom)
    if bottom < 0:
        # Dividing by a number below nought moves the sign to the top.
        divisor = -divisor
    return (top // divisor, bottom // divisor)


def ratio(top, bottom):
    if not is_whole(top) or not is_whole(bottom):
        raise NoRatio("a ratio is made of two whole numbers")
    if bottom == 0:
        raise NoRatio("the bottom of a ratio is not 0")
    return lowest(top, bottom)


def plus(one, other):
    return lowest(one[0] * other[1] + other[0] * one[1], one[1] * other[1])


def minus(one, other):
    return lowest(one[0] * other[1] - other[0] * one[1], one[1] * other[1])


def times(one, other):
    return lowest(one[0] * other[0], one[1] * other[1])


def parted(one, other):
    if other[0] == 0:
        raise NoRatio("nothing is parted by nought")
    return lowest(one[0] * other[1], one[1] * other[0])


def under(one, other):
    # Both bottoms are above nought, so multiplying by them turns nothing round.
    return one[0] * other[1] < other[0] * one[1]


def common_bottom(several):
    """The least number from 1 on that every bottom of these ratios divides."""
    least = 1
    for one in several:
        least = least * one[1] // common_divisor(least, one[1])
    return least


def whole_by(several, bottom):
    """The ratios multiplied by a number that all their bottoms divide, as whole numbers."""
    return [one[0] * (bottom // one[1]) for one in several]


def least_of(several):
    least = several[0]
    for one in several:
        if under(one, least):
            least = one
    return least
