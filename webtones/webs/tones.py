"""The polynomials of tables, and the tones of webs."""

from webtones.roots.fractions import fraction_of
from webtones.roots.polynomials import over_one, poly_over
from webtones.roots.roots import roots_of
from webtones.webs.tables import corner_sum, table_of, table_plus, table_times


def poly_of(table):
    """The polynomial of a table: x times the table of 1 less the table, as a determinant."""
    return poly_over(whole_poly_of(table), 1)


def whole_poly_of(table):
    """The whole numbers of the table's polynomial, that of x to the power 0 first."""
    many = len(table)
    numbers = [1]
    product = table_of(many, 0)
    for power in range(1, many + 1):
        product = table_times(table, table_plus(product, table_of(many, numbers[-1])))
        numbers.append(-corner_sum(product) // power)
    return tuple(numbers[::-1])


def tones_of(web):
    """The tones of a web, rising: pairs (stretch, times)."""
    return roots_of(poly_of(web[1]))


def determinant(table):
    """The determinant of a table."""
    first = whole_poly_of(table)[0]
    # At 0 the polynomial is the determinant of the table with each sign turned.
    return -first if len(table) % 2 == 1 else first


def put_into(poly, table):
    """The table of fractions that comes of the table in the place of x."""
    wholes, below = over_one(poly)
    many = len(table)
    told = table_of(many, 0)
    for number in reversed(wholes):
        told = table_plus(table_times(told, table), table_of(many, number))
    return tuple([tuple([fraction_of(number, below) for number in numbers]) for numbers in told])
