"""Fractions: tuples (above, below) in least numbers, below 1 or more."""


def is_whole(thing):
    """Whether the thing is a whole number: an int that is no truth."""
    return isinstance(thing, int) and not isinstance(thing, bool)


def is_fraction(thing):
    """Whether the thing is a fraction in least numbers."""
    if not isinstance(thing, tuple) or len(thing) != 2:
        return False
    above, below = thing
    if not is_whole(above) or not is_whole(below):
        return False
    return below >= 1 and common_divisor(above, below) == 1


def common_divisor(one, other):
    """The greatest common divisor of two whole numbers, 0 of 0 and 0."""
    one = abs(one)
    other = abs(other)
    while other != 0:
        one, other = other, one % other
    return one


def fraction_of(above, below):
    """The fraction of two whole numbers, below of either sign but not 0."""
    if below == 0:
        raise ZeroDivisionError("a fraction has no 0 below")
    divisor = common_divisor(above, below)
    if below < 0:
        divisor = -divisor
    return above // divisor, below // divisor


def fraction_plus(one, other):
    """The sum of two fractions."""
    # What both have in common below is taken out first: divisors of lesser numbers are found sooner.
    common = common_divisor(one[1], other[1])
    beside = one[1] // common
    above = one[0] * (other[1] // common) + other[0] * beside
    divisor = common_divisor(above, common)
    return above // divisor, beside * (other[1] // divisor)


def fraction_less(one, other):
    """The first fraction less the second one."""
    return fraction_plus(one, (-other[0], other[1]))


def fraction_times(one, other):
    """The product of two fractions."""
    left = common_divisor(one[0], other[1])
    right = common_divisor(other[0], one[1])
    return (one[0] // left) * (other[0] // right), (one[1] // right) * (other[1] // left)


def fraction_over(one, other):
    """The first fraction over the second one, which is not 0."""
    return fraction_of(one[0] * other[1], one[1] * other[0])


def sign_of(number):
    """-1, 0 or 1: the sign of a whole number."""
    if number < 0:
        return -1
    if number > 0:
        return 1
    return 0


def compared_fractions(one, other):
    """-1 where the first fraction is less, 0 where both are the same, 1 where it is greater."""
    return sign_of(one[0] * other[1] - other[0] * one[1])
