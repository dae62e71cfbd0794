"""Lone rows, that a table leads to so many times themselves, and how any row parts the tones."""

from webtones.errors import NoRoot
from webtones.roots.compared import all_compared_with
from webtones.roots.fractions import common_divisor, fraction_of
from webtones.roots.polynomials import over_one
from webtones.webs.tables import row_times, square_by
from webtones.webs.tones import poly_of


def lone_rows(web, fraction):
    """The rows, one for each free place, rising, that the table leads to the fraction times themselves."""
    many = len(web[0])
    led = led_rows(table_less(web[1], fraction))
    return [row_of_free(led, free, many) for free in range(many) if free not in led]


def table_less(table, fraction):
    """The table less the fraction at places with themselves, times what is below the fraction."""
    above, below = fraction
    return [
        [below * weight - above if at == beside else below * weight for beside, weight in enumerate(weights)]
        for at, weights in enumerate(table)
    ]


def led_rows(rows):
    """For each column that is no sum of columns ahead, a row that has a number there, and 0 at the others of these."""
    led = {}
    left = rows
    for column in range(len(rows)):
        leading = [row for row in left if row[column] != 0]
        if leading:
            leader = leading[0]
            # The leader itself comes to noughts, which do no harm among the rows that are left.
            left = [cleared(row, leader, column) for row in left]
            led = {place: cleared(led[place], leader, column) for place in led}
            led[column] = leader
    return led


def cleared(row, leader, column):
    """The row, some times, less the leader, some times, such that 0 stands in the column, in least numbers."""
    numbers = [leader[column] * number - row[column] * beside for number, beside in zip(row, leader)]
    divisor = 0
    for number in numbers:
        divisor = common_divisor(divisor, number)
    return [number // divisor for number in numbers] if divisor > 1 else numbers


def row_of_free(led, free, many):
    """The row with 1 at the free place and 0 at the other free ones, which each of the led rows takes to 0."""
    told = [(0, 1)] * many
    told[free] = (1, 1)
    for place in led:
        told[place] = fraction_of(-led[place][free], led[place][place])
    return tuple(told)


def parted_by(web, row):
    """(fraction, signs): row times table times row over row times row, how each tone compares with it; or NoRoot."""
    wholes = over_one(row)[0]
    square = row_times(wholes, wholes)
    if square == 0:
        raise NoRoot("a row of noughts parts no tones")
    fraction = fraction_of(square_by(web[1], wholes), square)
    return fraction, tuple(all_compared_with(poly_of(web[1]), fraction))
