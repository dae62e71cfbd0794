"""The roots of polynomials, told as stretches of fractions that hold one root each."""

from webtones.roots.apart import halved, has_root_in, is_within, roots_within, stretches_apart
from webtones.roots.fractions import compared_fractions, fraction_of, sign_of
from webtones.roots.lifted import fraction_roots, without_fractions
from webtones.roots.polynomials import least_of
from webtones.roots.wholes import value_over, whole_parts, whole_times, without_repeats


def roots_between(poly, low, high):
    """How many roots, each counted once, lie above low and at most at high, of a polynomial that is not nought."""
    if compared_fractions(low, high) >= 0:
        return 0
    return roots_within(without_repeats(least_of(poly)), low, high)


def roots_of(poly):
    """The roots of a polynomial that is not nought, rising: pairs (stretch, times)."""
    parts = whole_parts(least_of(poly))
    lone = (1,)
    for part, times in parts:
        lone = whole_times(lone, part)
    return tuple([
        (stretch, times)
        for stretch in stretches_apart(lone)
        for part, times in parts
        if has_root_in(part, stretch)
    ])


def narrowed(poly, stretch, width):
    """The stretch of a root of the polynomial made no wider than a fraction above 0."""
    wholes = without_repeats(least_of(poly))
    fractions = fraction_roots(wholes)
    for fraction in fractions:
        if is_within(fraction, stretch[0], stretch[1]):
            return fraction, fraction
    return halved_until(without_fractions(wholes, fractions), stretch, width)


def halved_until(wholes, stretch, width):
    """The stretch halved until it is no wider than the width; no root of the polynomial is a fraction."""
    low = stretch[0][0] * stretch[1][1]
    high = stretch[1][0] * stretch[0][1]
    below = stretch[0][1] * stretch[1][1]
    sign = sign_of(value_over(wholes, low, below))
    while (high - low) * width[1] > width[0] * below:
        low, high, below = halved(wholes, sign, low, high, below)
    return fraction_of(low, below), fraction_of(high, below)
