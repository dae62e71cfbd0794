"""Stretches that hold one root each, of polynomials of whole numbers."""

from webtones.roots.fractions import compared_fractions, fraction_of, sign_of
from webtones.roots.lifted import fraction_roots, root_bound, without_fractions
from webtones.roots.wholes import sign_over, trimmed, value_over


def stretches_apart(wholes):
    """The stretches of the roots, rising, of a polynomial without repeats: pairs of fractions, as roots are told."""
    fractions = fraction_roots(wholes)
    rest = without_fractions(wholes, fractions)
    bound = root_bound(rest)
    told = [(fraction, fraction) for fraction in fractions]
    for at, halvings in unit_pieces(on_unit(rest, -bound, bound, 1)):
        low = bound * (2 * at - (1 << halvings))
        told.append(inner_stretch(rest, low, low + 2 * bound, 1 << halvings, fractions))
    return rising(told)


def roots_within(wholes, low, high):
    """How many roots lie above low and at most at high, a greater fraction, of a polynomial without repeats."""
    fractions = fraction_roots(wholes)
    many = len([one for one in fractions if is_within(one, low, high) and one != low])
    rest = without_fractions(wholes, fractions)
    placed = on_unit(rest, low[0] * high[1], high[0] * low[1], low[1] * high[1])
    return many + len(unit_pieces(placed))


def is_within(fraction, low, high):
    """Whether the fraction lies from low to high."""
    return compared_fractions(low, fraction) <= 0 and compared_fractions(fraction, high) <= 0


def has_root_in(wholes, stretch):
    """Whether the polynomial has the one root that may lie in the stretch, none at unlike ends."""
    low, high = stretch
    if low == high:
        return sign_over(wholes, low) == 0
    return sign_over(wholes, low) != sign_over(wholes, high)


def rising(stretches):
    """The stretches, no two with a number in common, in their order."""
    ordered = []
    for stretch in stretches:
        at = len([one for one in ordered if compared_fractions(one[0], stretch[0]) < 0])
        ordered.insert(at, stretch)
    return ordered


def on_unit(wholes, low, high, below):
    """The polynomial that has from 0 to 1 the signs of this one from low to high, both over below."""
    placed = [0] * len(wholes)
    factor = 1
    for number in reversed(wholes):
        for at in range(len(placed) - 1, 0, -1):
            placed[at] = placed[at] * low + placed[at - 1] * (high - low)
        placed[0] = placed[0] * low + number * factor
        factor *= below
    return trimmed(placed)


def unit_pieces(wholes):
    """Pieces (at, halvings) of the stretch from 0 to 1, rising: from at to at + 1, halved so many times.

    Each holds one root and no other piece does; the polynomial has no repeats, and no root that is a fraction.
    """
    pieces = []
    waiting = [(wholes, 0, 0)]
    while waiting:
        numbers, at, halvings = waiting.pop()
        # So many roots lie within at most, and less than that only by an even number.
        most = sign_turns(shifted(numbers[::-1]))
        if most == 1:
            pieces.append((at, halvings))
        elif most > 1:
            left = stretched(numbers)
            waiting.append((shifted(left), 2 * at + 1, halvings + 1))
            waiting.append((left, 2 * at, halvings + 1))
    return pieces


def sign_turns(numbers):
    """How often the sign turns from number to number, noughts left out."""
    signs = [sign_of(number) for number in numbers if number != 0]
    return len([at for at in range(1, len(signs)) if signs[at] != signs[at - 1]])


def shifted(numbers):
    """The polynomial with x + 1 in the place of x."""
    told = list(numbers)
    for first in range(len(told) - 1):
        for at in range(len(told) - 2, first - 1, -1):
            told[at] += told[at + 1]
    return tuple(told)


def stretched(numbers):
    """The polynomial with x over 2 in the place of x, times 2 to the power of the degree."""
    return tuple([number << (len(numbers) - 1 - at) for at, number in enumerate(numbers)])


def inner_stretch(wholes, low, high, below, fractions):
    """The stretch of the root between low and high, over below, without its low end and any of these fractions."""
    sign = sign_of(value_over(wholes, low, below))
    least = fraction_of(low, below)
    told = (least, fraction_of(high, below))
    # Pieces may meet at an end: where each has another low end, no two have a number in common.
    while told[0] == least or any(is_within(fraction, told[0], told[1]) for fraction in fractions):
        low, high, below = halved(wholes, sign, low, high, below)
        told = (fraction_of(low, below), fraction_of(high, below))
    return told


def halved(wholes, sign, low, high, below):
    """(low, high, below) of the half that holds the root; sign is that at low, and no root is a fraction."""
    middle = low + high
    if sign_of(value_over(wholes, middle, 2 * below)) == sign:
        return middle, 2 * high, 2 * below
    return 2 * low, middle, 2 * below
