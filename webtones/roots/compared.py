"""Roots compared: with one another, with fractions, and by the sign of a polynomial there."""

from webtones.errors import NoRoot
from webtones.roots.apart import has_root_in, stretches_apart
from webtones.roots.fractions import compared_fractions, sign_of
from webtones.roots.polynomials import least_of
from webtones.roots.wholes import joined, sign_over, without_repeats


def compared_roots(poly, number, other, beside):
    """-1, 0 or 1: how the polynomial's root of that number compares with the other one's root; or NoRoot."""
    left, right = ranks_of(poly, other)
    return sign_of(counted(left, number) - counted(right, beside))


def compared_with(poly, number, fraction):
    """-1, 0 or 1: how the polynomial's root of that number compares with the fraction; or NoRoot."""
    return counted(all_compared_with(poly, fraction), number)


def all_compared_with(poly, fraction):
    """For each root of the polynomial, rising, -1, 0 or 1: how it compares with the fraction."""
    wholes = without_repeats(least_of(poly))
    return [compared_in(wholes, stretch, fraction) for stretch in stretches_apart(wholes)]


def compared_in(wholes, stretch, fraction):
    """How the one root in the stretch, of a polynomial without repeats, compares with the fraction."""
    low, high = stretch
    if compared_fractions(fraction, low) < 0:
        return 1
    if compared_fractions(fraction, high) > 0:
        return -1
    # Within the stretch the sign turns at the root alone; ends that are the same are the root.
    sign = sign_over(wholes, fraction)
    if sign == 0:
        return 0
    return 1 if sign == sign_over(wholes, low) else -1


def sign_at(poly, other, number):
    """-1, 0 or 1: the sign of the polynomial, perhaps nought, at the other one's root of that number; or NoRoot."""
    signed = least_of(poly)
    lone = without_repeats(signed) if poly != () else (1,)
    rooted = without_repeats(least_of(other))
    stretches = stretches_apart(joined(rooted, lone))
    stretch = counted([one for one in stretches if has_root_in(rooted, one)], number)
    if poly == () or has_root_in(lone, stretch):
        return 0
    return sign_over(signed, stretch[0]) * sign_of(poly[-1][0])


def ranks_of(one, other):
    """For each of two polynomials, not nought, what numbers its roots have among the roots of both."""
    left = without_repeats(least_of(one))
    right = without_repeats(least_of(other))
    stretches = stretches_apart(joined(left, right))
    return ranks_among(left, stretches), ranks_among(right, stretches)


def ranks_among(wholes, stretches):
    """The numbers of the stretches that hold a root of the polynomial."""
    return [at for at, stretch in enumerate(stretches) if has_root_in(wholes, stretch)]


def counted(things, number):
    """The thing of that number, one for each root, counted from 0; or NoRoot."""
    if not 0 <= number < len(things):
        raise NoRoot("no root has that number")
    return things[number]
