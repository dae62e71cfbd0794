"""Bounds by tones: of the greatest tone by rows, of sets without ties, and of the least tone by squares."""

from webtones.errors import NoParting
from webtones.roots.compared import sign_at
from webtones.roots.fractions import (
    compared_fractions,
    fraction_less,
    fraction_of,
    fraction_over,
    fraction_plus,
    fraction_times,
    is_fraction,
)
from webtones.roots.polynomials import NOUGHT, over_one
from webtones.roots.roots import narrowed, roots_of
from webtones.roots.wholes import least_wholes
from webtones.trees.spanning import hanging_parts
from webtones.webs.tables import row_times, square_by
from webtones.webs.tones import poly_of, whole_poly_of

ONE = (1, 1)


def row_bounds(web, row):
    """The least and the greatest of the table times the row over the row, a row of fractions above 0."""
    wholes = over_one(row)[0]
    low = None
    high = None
    for weights, whole in zip(web[1], wholes):
        share = fraction_of(row_times(weights, wholes), whole)
        if low is None or compared_fractions(share, low) < 0:
            low = share
        if high is None or compared_fractions(share, high) > 0:
            high = share
    return low, high


def greatest_between(web, width):
    """(row, low, high): a row whose bounds of the greatest tone are no farther apart than the width; or NoParting."""
    if len(hanging_parts(web)) > 1:
        raise NoParting("the places do not hang together")
    poly = poly_of(web[1])
    stretch = roots_of(poly)[-1][0]
    near = width
    while True:
        stretch = narrowed(poly, stretch, near)
        row = tuple([(whole, 1) for whole in row_near(web[1], stretch[1])])
        low, high = row_bounds(web, row)
        if compared_fractions(fraction_less(high, low), width) <= 0:
            return row, low, high
        # How near is near enough hangs on how unlike the row's numbers are.
        near = fraction_of(near[0], near[1] << 16)


def row_near(table, at):
    """A row of whole numbers above 0, whose bounds are the nearer to one another the nearer at is to the greatest tone.

    The places hang together, and the fraction is no less than the tone.
    """
    # The table of the lesser determinants of at times the table of 1 less the table, times the row of 1:
    # above 0 from the greatest tone on, and there a row that the table leads to so many times itself.
    above, below = at
    part = [1] * len(table)
    row = part
    factor = 1
    for number in reversed(whole_poly_of(table)[1:-1]):
        part = [row_times(weights, part) + number for weights in table]
        factor *= below
        row = [whole * above + factor * share for whole, share in zip(row, part)]
    return least_wholes(row)


def lone_set(web):
    """(names, truth): the first greatest set of places without ties, and whether it is as great as the bound."""
    names, table = web
    ties = ties_of_each(table)
    places = greatest_lone(table, list(range(len(names))))
    # As great as the bound just where this is 0 at the least tone.
    line = ((len(places) * ties, 1), (len(names) - len(places), 1))
    return tuple([names[place] for place in places]), sign_at(line, poly_of(table), 0) == 0


def ties_of_each(table):
    """The number of ties, each of weight 1, from 1 on, that every place has with others; or NoParting."""
    if not all(weight in (0, 1) for weights in table for weight in weights):
        raise NoParting("a weight is neither 0 nor 1")
    if any(weights[at] != 0 for at, weights in enumerate(table)):
        raise NoParting("a place is tied with itself")
    ties = sum(table[0])
    if ties == 0 or any(sum(weights) != ties for weights in table):
        raise NoParting("the places have not all the same number of ties, from 1 on")
    return ties


def greatest_lone(table, places):
    """Of these rising places the first greatest set of which no two are tied."""
    if not places:
        return ()
    first = places[0]
    others = places[1:]
    having = (first,) + greatest_lone(table, [place for place in others if table[first][place] == 0])
    lacking = greatest_lone(table, others)
    return having if len(having) >= len(lacking) else lacking


def squares_of(web, c):
    """("above", squares) that come to the table with c, or ("below", row) that gives a square below 0 by it."""
    table = table_with(web[1], c)
    led = []
    for place in range(len(table)):
        numbers = table[place]
        weight = numbers[place]
        if weight[0] < 0 or weight[0] == 0 and any(number != NOUGHT for number in numbers):
            return "below", row_below(table, place, led)
        if weight[0] > 0:
            row = tuple([fraction_over(number, weight) for number in numbers])
            table = without_square(table, weight, row)
            led.append((place, weight, row))
    return "above", tuple([(weight, row) for place, weight, row in led])


def table_with(table, c):
    """The table, as fractions, with c added to each place's weight with itself."""
    return [
        [fraction_plus((weight, 1), c) if at == beside else (weight, 1) for beside, weight in enumerate(weights)]
        for at, weights in enumerate(table)
    ]


def without_square(table, weight, row):
    """The table less the weight times the row times itself turned up."""
    shares = [fraction_times(weight, fraction) for fraction in row]
    return [
        [fraction_less(number, fraction_times(share, fraction)) for number, fraction in zip(numbers, row)]
        for numbers, share in zip(table, shares)
    ]


def row_below(table, place, led):
    """A row that gives a square below 0 by the whole table, of the place at which what is left of it shows one."""
    row = [NOUGHT] * len(table)
    if table[place][place][0] < 0:
        row[place] = ONE
    else:
        # With 1 at the place beside it, 2 times the tie times this and that place's own weight come to -1.
        beside = [at for at, number in enumerate(table[place]) if number != NOUGHT][0]
        row[beside] = ONE
        own = fraction_plus(table[beside][beside], ONE)
        row[place] = fraction_over(own, fraction_times((-2, 1), table[place][beside]))
    # The squares that were taken off give 0: each has 1 at its own place, and 0 at those of the squares ahead.
    for at, weight, square in reversed(led):
        row[at] = less_products(square[at + 1:], row[at + 1:])
    return tuple(row)


def less_products(one, other):
    """0 less the sum of the products of two rows of as many fractions."""
    told = NOUGHT
    for left, right in zip(one, other):
        told = fraction_less(told, fraction_times(left, right))
    return told


def squares_shown(web, c, told):
    """Whether the told thing, squares or a row, is let by: then it shows what it tells of the table with c."""
    if not isinstance(told, tuple) or len(told) != 2:
        return False
    if told[0] == "above":
        return comes_to_table(web, c, told[1])
    return told[0] == "below" and gives_below(web, c, told[1])


def comes_to_table(web, c, squares):
    """Whether the squares, with weights above 0, come to the table with c."""
    many = len(web[0])
    if not isinstance(squares, tuple) or not all(is_square(square, many) for square in squares):
        return False
    left = table_with(web[1], c)
    for weight, row in squares:
        left = without_square(left, weight, row)
    return all(number == NOUGHT for numbers in left for number in numbers)


def is_square(square, many):
    """Whether it is a pair of a weight above 0 and a row of so many fractions."""
    if not isinstance(square, tuple) or len(square) != 2:
        return False
    weight, row = square
    return is_fraction(weight) and weight[0] > 0 and is_row(row, many)


def is_row(row, many):
    """Whether it is a row of so many fractions."""
    return isinstance(row, tuple) and len(row) == many and all(is_fraction(fraction) for fraction in row)


def gives_below(web, c, row):
    """Whether the row gives a square below 0 by the table with c."""
    if not is_row(row, len(web[0])):
        return False
    wholes = over_one(row)[0]
    return square_by(web[1], wholes) * c[1] + row_times(wholes, wholes) * c[0] < 0
