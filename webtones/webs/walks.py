"""Walks from place to place, and the sums of closed ones told by polynomials."""

from webtones.roots.fractions import fraction_of, fraction_plus, fraction_times
from webtones.webs.tables import corner_sum, table_of, table_times


def walks_of(web, many):
    """The table of the sums of the weights of all walks of so many ties, from each place to each."""
    table = web[1]
    told = table_of(len(table), 1)
    for step in range(many):
        told = table_times(told, table)
    return told


def closed_walks(web, many):
    """The sum of the weights of all closed walks of so many ties."""
    return corner_sum(walks_of(web, many))


def poly_by_sums(sums):
    """The polynomial of as many roots as there are sums, whose powers have these sums."""
    numbers = [(1, 1)]
    for many in range(1, len(sums) + 1):
        # Newton's sums: each power's number is told by those of the greater ones.
        total = (0, 1)
        for at in range(1, many + 1):
            total = fraction_plus(total, fraction_times(numbers[many - at], sums[at - 1]))
        numbers.append(fraction_of(-total[0], total[1] * many))
    return tuple(numbers[::-1])


def sums_by_poly(poly, many):
    """The sums of closed walks of 1 to many ties, of a polynomial with 1 as its last fraction."""
    numbers = poly[::-1]
    degree = len(poly) - 1
    sums = []
    for ties in range(1, many + 1):
        # Newton's sums, the other way about; beyond the degree there are no more numbers.
        total = fraction_times((ties, 1), numbers[ties]) if ties <= degree else (0, 1)
        for at in range(1, min(ties - 1, degree) + 1):
            total = fraction_plus(total, fraction_times(numbers[at], sums[ties - at - 1]))
        sums.append((-total[0], total[1]))
    return tuple(sums)
