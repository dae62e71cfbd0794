"""What several tests need: polynomials by hand, another way to count roots, and the kinds of what is told."""

import copy
import itertools
import random
from fractions import Fraction
from math import gcd, lcm

from webtones.errors import NoAsk, NoName, NoParting, NoRoot, NoWeb, ToneError

ALIKE_NAMES = ("a", "b", "ab", "aa", "abcdefgh", "abcdefgi", "abcdefg", "z")


def pair(number):
    """The fraction as the program has it."""
    number = Fraction(number)
    return number.numerator, number.denominator


def poly(*numbers):
    """The polynomial of these numbers, that of x to the power 0 first."""
    told = [Fraction(number) for number in numbers]
    while told and told[-1] == 0:
        told.pop()
    return tuple(pair(number) for number in told)


def numbers_of(polynomial):
    return [Fraction(*fraction) for fraction in polynomial]


def times(*factors):
    """The product of polynomials, reckoned here."""
    product = [Fraction(1)]
    for factor in factors:
        sums = [Fraction(0)] * (len(product) + len(factor))
        for at, left in enumerate(product):
            for beside, right in enumerate(numbers_of(factor)):
                sums[at + beside] += left * right
        product = sums
    return poly(*product)


def power(factor, many):
    return times(*[factor] * many)


def line(root):
    """x less the root."""
    return poly(-Fraction(root), 1)


def by_roots(*roots):
    return times(*[line(root) for root in roots])


def value(polynomial, at):
    total = Fraction(0)
    for number in reversed(numbers_of(polynomial)):
        total = total * at + number
    return total


def rest_of(one, other):
    one = list(one)
    while len(one) >= len(other):
        factor = one[-1] / other[-1]
        for at in range(1, len(other) + 1):
            one[-at] -= factor * other[-at]
        one.pop()
    while one and one[-1] == 0:
        one.pop()
    return one


def slope(numbers):
    return [at * number for at, number in enumerate(numbers)][1:]


def wholes_of(polynomial):
    """Whole numbers without a common divisor, above 0 times the polynomial's."""
    below = lcm(*[fraction[1] for fraction in polynomial])
    return without_common([above * (below // beside) for above, beside in polynomial])


def without_common(wholes):
    divisor = gcd(*wholes) or 1
    return [number // divisor for number in wholes]


def chain_of(one, other):
    """Euclid's row of two rows of whole numbers, each the rest of the two ahead, with the other sign."""
    chain = [one, other]
    while chain[-1]:
        rest, divisor = list(chain[-2]), chain[-1]
        while len(rest) >= len(divisor):
            factor, last = rest[-1], divisor[-1]
            rest = [number * abs(last) for number in rest]
            factor = factor if last > 0 else -factor
            for at in range(1, len(divisor) + 1):
                rest[-at] -= factor * divisor[-at]
            while rest and rest[-1] == 0:
                rest.pop()
        chain.append(without_common([-number for number in rest]))
    chain.pop()
    return chain


def sturm_chain(polynomial):
    """Sturm's row of the polynomial, for a count of roots by another way than the program's."""
    wholes = wholes_of(polynomial)
    return chain_of(wholes, slope(wholes))


def turns_at(chain, at):
    signs = []
    for numbers in chain:
        total, factor = 0, 1
        for number in reversed(numbers):
            total = total * at.numerator + number * factor
            factor *= at.denominator
        if total != 0:
            signs.append(total > 0)
    return sum(left != right for left, right in zip(signs, signs[1:]))


def lone_part(polynomial):
    """The polynomial that has each root once, reckoned here."""
    divisor = sturm_chain(polynomial)[-1]
    one = numbers_of(polynomial)
    often = []
    while len(one) >= len(divisor):
        factor = one[-1] / divisor[-1]
        often.insert(0, factor)
        for at in range(1, len(divisor) + 1):
            one[-at] -= factor * divisor[-at]
        one.pop()
    return poly(*often)


def sturm_count(polynomial, low, high):
    """How many roots lie above low and at most at high."""
    if low >= high:
        return 0
    chain = sturm_chain(lone_part(polynomial))
    return turns_at(chain, low) - turns_at(chain, high)


def all_count(polynomial):
    """How many roots there are at all."""
    numbers = numbers_of(polynomial)
    bound = 1 + max(abs(number / numbers[-1]) for number in numbers)
    return sturm_count(polynomial, -bound, bound)


def divisor_of(one, other):
    """The greatest common divisor of two polynomials, reckoned here."""
    return poly(*chain_of(wholes_of(one), wholes_of(other))[-1])


def sturm_ranks(one, other):
    """The roots of each of two polynomials, as often as they come, by their numbers among the roots of both."""
    both = sturm_chain(lone_part(times(one, other)))
    bound = 1 + max(abs(number / two[-1]) for two in map(numbers_of, (one, other)) for number in two)
    waiting, stretches = [(-bound, bound)], []
    while waiting:
        low, high = waiting.pop()
        count = turns_at(both, low) - turns_at(both, high)
        if count == 1:
            stretches.append((low, high))
        elif count > 1:
            middle = (low + high) / 2
            waiting += [(middle, high), (low, middle)]
    return [sturm_repeats(polynomial, stretches) for polynomial in (one, other)]


def sturm_repeats(polynomial, stretches):
    told = []
    while len(polynomial) > 1:
        chain = sturm_chain(lone_part(polynomial))
        told += [at for at, (low, high) in enumerate(stretches) if turns_at(chain, low) != turns_at(chain, high)]
        polynomial = divisor_of(polynomial, poly(*slope(numbers_of(polynomial))))
    return sorted(told)


def check_refused(case, refusal, function, *arguments):
    """The refusal, which is caught as any refusal, and as no other one."""
    others = [other for other in (NoAsk, NoName, NoParting, NoRoot, NoWeb) if other != refusal]
    with case.subTest(function=function.__name__, arguments=arguments):
        for caught in (refusal, ToneError, ValueError):
            with case.assertRaises(caught) as kept:
                function(*arguments)
            case.assertNotIsInstance(kept.exception, tuple(others))
        return kept.exception


def is_whole(thing):
    return type(thing) is int


def is_fraction(thing):
    return (
        type(thing) is tuple and len(thing) == 2 and is_whole(thing[0]) and is_whole(thing[1])
        and thing[1] >= 1 and gcd(*thing) == 1
    )


def is_poly(thing):
    return type(thing) is tuple and all(map(is_fraction, thing)) and (not thing or thing[-1] != (0, 1))


def is_stretch(thing):
    return (
        type(thing) is tuple and len(thing) == 2 and all(map(is_fraction, thing))
        and Fraction(*thing[0]) <= Fraction(*thing[1])
    )


def is_pairs(thing, first, second):
    return type(thing) is tuple and all(
        type(two) is tuple and len(two) == 2 and first(two[0]) and second(two[1]) for two in thing
    )


def is_table(thing, kind=is_whole):
    return type(thing) is tuple and all(type(row) is tuple and all(map(kind, row)) for row in thing)


def is_name(thing):
    return type(thing) is str


def is_row_of(thing, kind):
    return type(thing) is tuple and all(map(kind, thing))


def is_web(thing):
    return type(thing) is tuple and len(thing) == 2 and is_row_of(thing[0], is_name) and is_table(thing[1])


def is_sign(thing):
    return is_whole(thing) and thing in (-1, 0, 1)


def is_truth(thing):
    return type(thing) is bool


def web_of(names, ties):
    """The web of these names with ties {(place, place): weight}."""
    table = [[0] * len(names) for _ in names]
    for (one, other), weight in ties.items():
        table[one][other] = weight
        table[other][one] = weight
    return tuple(names), tuple(tuple(row) for row in table)


def chance_web(chance, many, least=-99, most=99, share=0.6, names=None):
    """A web of so many places, with ties by chance."""
    pairs = itertools.combinations_with_replacement(range(many), 2)
    ties = {two: chance.randint(least, most) for two in pairs if chance.random() < share}
    return web_of(chance.sample(ALIKE_NAMES, many) if names is None else names, ties)


def chance_table(chance, many, least=-99, most=99):
    return tuple(tuple(chance.randint(least, most) for _ in range(many)) for _ in range(many))


def chance_fraction(chance, figures=6):
    return Fraction(chance.randint(1 - 10**figures, 10**figures - 1), chance.randint(1, 10**figures - 1))


def chance_poly(chance, degree, figures=6):
    """A polynomial of just that degree."""
    numbers = [chance_fraction(chance, figures) for _ in range(degree)]
    last = Fraction(0)
    while last == 0:
        last = chance_fraction(chance, figures)
    return poly(*numbers, last)


def some_webs():
    """Webs of one to eight places: without ties, with all, and with some."""
    chance = random.Random(4)
    for many in range(1, 9):
        pairs = list(itertools.combinations_with_replacement(range(many), 2))
        yield web_of(ALIKE_NAMES[:many], {})
        yield web_of(ALIKE_NAMES[:many], {two: 1 for two in pairs})
        for _ in range(20):
            yield chance_web(chance, many)


def path_web(many):
    """Places in a row, each tied with the next by 1."""
    return web_of("abcdefgh"[:many], {(at, at + 1): 1 for at in range(many - 1)})


def ring_web(many):
    """Places in a ring of three or more."""
    return web_of("abcdefgh"[:many], {(at, (at + 1) % many): 1 for at in range(many)})


def full_web(many):
    """All places tied with one another by 1."""
    return web_of("abcdefgh"[:many], {two: 1 for two in itertools.combinations(range(many), 2)})


def star_web(many):
    """The first place tied with each other one by 1."""
    return web_of("abcdefgh"[:many], {(0, at): 1 for at in range(1, many)})


def cube_web():
    """Eight places, tied where their numbers differ in one of three bits."""
    ties = {(one, one ^ bit): 1 for one in range(8) for bit in (1, 2, 4)}
    return web_of("abcdefgh", ties)


def check_asked(case, asked):
    """Of rows (function, {argument: value}, kind, by_name): asked by place and by name, twice, nothing changed."""
    kept = copy.deepcopy([arguments for _, arguments, _, _ in asked])
    told = [function(*arguments.values()) for function, arguments, _, _ in asked]
    shown = [repr(one) for one in told]
    for (function, arguments, kind, by_name), first in zip(asked, told):
        with case.subTest(function=function.__name__, arguments=arguments):
            case.assertTrue(kind(first), first)
            if by_name:
                case.assertEqual(function(**arguments), first)
                case.assertEqual(function(**dict(reversed(arguments.items()))), first)
    for (function, arguments, _, _), first in reversed(list(zip(asked, shown))):
        with case.subTest(function=function.__name__, arguments=arguments):
            case.assertEqual(repr(function(*arguments.values())), first)
    case.assertEqual([repr(one) for one in told], shown)
    case.assertEqual([arguments for _, arguments, _, _ in asked], kept)
