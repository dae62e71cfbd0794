"""Polynomials of whole numbers: tuples, that of x to the power 0 first, the last one not 0; nought has none."""

from webtones.roots.fractions import common_divisor, sign_of

# 2 to the power 61, less 1: any prime would do, a great one is seldom met by chance.
GREAT_PRIME = 2305843009213693951


def trimmed(numbers):
    """The numbers, without the noughts behind the last one that is not 0."""
    many = len(numbers)
    while many > 0 and numbers[many - 1] == 0:
        many -= 1
    return tuple(numbers[:many])


def least_wholes(wholes):
    """The polynomial over the common divisor of its numbers, the last one above 0."""
    divisor = 0
    for number in wholes:
        divisor = common_divisor(divisor, number)
    if wholes != () and wholes[-1] < 0:
        divisor = -divisor
    return tuple([number // divisor for number in wholes])


def whole_times(one, other):
    """The product of two polynomials."""
    sums = [0] * (len(one) + len(other))
    for at, number in enumerate(one):
        for beside, factor in enumerate(other):
            sums[at + beside] += number * factor
    return trimmed(sums)


def whole_less(one, other):
    """The first polynomial less the second one."""
    numbers = [0] * max(len(one), len(other))
    for at, number in enumerate(one):
        numbers[at] += number
    for at, number in enumerate(other):
        numbers[at] -= number
    return trimmed(numbers)


def whole_slope(wholes):
    """The slope of the polynomial."""
    return tuple([at * number for at, number in enumerate(wholes) if at > 0])


def whole_divided(one, other):
    """(times, how often, rest): one, so many times, is other so often and the rest, of a lesser degree."""
    last = other[-1]
    times = 1
    often = []
    rest = list(one)
    for at in range(len(one) - len(other), -1, -1):
        above = rest.pop()
        rest = [last * number for number in rest]
        for beside in range(len(other) - 1):
            rest[at + beside] -= above * other[beside]
        often = [last * number for number in often]
        often.append(above)
        times *= last
    return times, trimmed(often[::-1]), trimmed(rest)


def whole_over(one, other):
    """How often the second polynomial is in the first one, where it is so a whole number of times."""
    often = []
    rest = list(one)
    for at in range(len(one) - len(other), -1, -1):
        share = rest.pop() // other[-1]
        for beside in range(len(other) - 1):
            rest[at + beside] -= share * other[beside]
        often.append(share)
    return trimmed(often[::-1])


def whole_divisor(one, other):
    """The greatest common divisor of two polynomials, not both nought, in least numbers."""
    one = least_wholes(one)
    other = least_wholes(other)
    if is_parted(one, other):
        return (1,)
    while other != ():
        one, other = other, least_wholes(whole_divided(one, other)[2])
    return one


def is_parted(one, other):
    """Whether a look by a prime shows that both have no divisor of a degree from 1 on in common."""
    # By a prime that is not in the last number, a common divisor would keep its degree.
    if one == () or one[-1] % GREAT_PRIME == 0:
        return False
    one = wholes_by_prime(one)
    other = wholes_by_prime(other)
    while other != ():
        one, other = other, wholes_by_prime(whole_divided(one, other)[2])
    return len(one) == 1


def wholes_by_prime(wholes):
    """The rests that the numbers leave when divided by the great prime."""
    return trimmed([number % GREAT_PRIME for number in wholes])


def whole_parts(wholes):
    """The parts of a polynomial of whole numbers in least ones, in least ones, too."""
    slope = whole_slope(wholes)
    repeats = whole_divisor(wholes, slope)
    # What is left has each root once; a root that comes so many times is one of the slant
    # as soon as the slant was lessened by the slope of what is left so many times.
    left = whole_over(wholes, repeats)
    slant = whole_over(slope, repeats)
    parts = []
    times = 0
    while len(left) > 1:
        times += 1
        slant = whole_less(slant, whole_slope(left))
        part = whole_divisor(left, slant)
        if len(part) > 1:
            parts.append((part, times))
        left = whole_over(left, part)
        slant = whole_over(slant, part)
    return parts


def without_repeats(wholes):
    """The polynomial that has each root of this one, which is not nought, once, in least numbers."""
    return whole_over(least_wholes(wholes), whole_divisor(wholes, whole_slope(wholes)))


def joined(one, other):
    """The polynomial that has each root of both once, of two without repeats."""
    return whole_times(one, whole_over(other, whole_divisor(one, other)))


def value_over(wholes, above, below):
    """The value at above over below, times below to the power of the degree: a whole number."""
    value = 0
    factor = 1
    for number in reversed(wholes):
        value = value * above + number * factor
        factor *= below
    return value


def sign_over(wholes, at):
    """The sign of the polynomial at a fraction."""
    above, below = at
    return sign_of(value_over(wholes, above, below))
