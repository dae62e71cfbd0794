"""Polynomials: tuples of fractions, that of x to the power 0 first, the last one not 0; nought has none."""

from webtones.roots.fractions import common_divisor, fraction_less, fraction_of, fraction_plus
from webtones.roots.wholes import (
    least_wholes,
    value_over,
    whole_divided,
    whole_divisor,
    whole_parts,
    whole_slope,
    whole_times,
)

NOUGHT = (0, 1)


def poly_plus(one, other):
    """The sum of two polynomials."""
    return poly_by_powers(one, other, fraction_plus)


def poly_less(one, other):
    """The first polynomial less the second one."""
    return poly_by_powers(one, other, fraction_less)


def poly_by_powers(one, other, reckon):
    """The polynomial of what is reckoned of both fractions of each power."""
    many = max(len(one), len(other))
    left = list(one) + [NOUGHT] * (many - len(one))
    right = list(other) + [NOUGHT] * (many - len(other))
    told = [reckon(left[at], right[at]) for at in range(many)]
    while told and told[-1] == NOUGHT:
        told.pop()
    return tuple(told)


def poly_times(one, other):
    """The product of two polynomials, which may end by 0."""
    left, below = over_one(one)
    right, beside = over_one(other)
    return poly_over(whole_times(left, right), below * beside)


def poly_divided(one, other):
    """("divided", how often, rest): the second polynomial, not nought, so often and the rest are the first."""
    left, below = over_one(one)
    right, beside = over_one(other)
    times, often, rest = whole_divided(left, right)
    often = tuple([number * beside for number in often])
    return "divided", poly_over(often, times * below), poly_over(rest, times * below)


def value_at(poly, at):
    """The value of the polynomial at a fraction."""
    wholes, below = over_one(poly)
    for number in wholes[1:]:
        below *= at[1]
    return fraction_of(value_over(wholes, at[0], at[1]), below)


def slope_of(poly):
    """The slope of the polynomial."""
    wholes, below = over_one(poly)
    return poly_over(whole_slope(wholes), below)


def poly_divisor(one, other):
    """The greatest common divisor of two polynomials, not both nought, with 1 as its last fraction."""
    wholes = whole_divisor(over_one(one)[0], over_one(other)[0])
    return poly_over(wholes, wholes[-1])


def parts_of(poly):
    """The parts of a polynomial that is not nought: pairs (part, times), times rising."""
    return tuple([(poly_over(part, part[-1]), times) for part, times in whole_parts(least_of(poly))])


def over_one(poly):
    """(wholes, below): the polynomial as whole numbers over one number above 0."""
    below = 1
    for fraction in poly:
        below *= fraction[1] // common_divisor(below, fraction[1])
    return tuple([above * (below // beside) for above, beside in poly]), below


def poly_over(wholes, below):
    """The polynomial of whole numbers over one number that is not 0."""
    return tuple([fraction_of(number, below) for number in wholes])


def least_of(poly):
    """The polynomial of least whole numbers, the last above 0, that has the roots of this one."""
    return least_wholes(over_one(poly)[0])
