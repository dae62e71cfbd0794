"""The roots that are fractions, of polynomials of whole numbers: found by a prime, lifted to its powers."""

from webtones.roots.fractions import fraction_of
from webtones.roots.wholes import value_over, whole_over, whole_slope


def fraction_roots(wholes):
    """The roots that are fractions, each once, of a polynomial without repeats, its last number above 0."""
    last = wholes[-1]
    # Below a root that is a fraction stands a divisor of the last number: times that it is whole.
    beyond = 2 * last * root_bound(wholes)
    prime, starts = lone_roots_by_prime(wholes)
    told = []
    for start in starts:
        root, modulus = lifted(wholes, start, prime, beyond)
        above = last * root % modulus
        if 2 * above > modulus:
            above -= modulus
        if value_over(wholes, above, last) == 0:
            told.append(fraction_of(above, last))
    return told


def without_fractions(wholes, fractions):
    """The polynomial without these roots of it."""
    for above, below in fractions:
        wholes = whole_over(wholes, (-above, below))
    return wholes


def root_bound(wholes):
    """A power of 2 such that each root is nearer to 0."""
    last = wholes[-1].bit_length()
    most = 0
    for at in range(1, len(wholes)):
        bits = wholes[-1 - at].bit_length() - last + 1
        # Rounded up: 2 to the power most, to the power at, is no less than this number over the last one.
        most = max(most, -(-bits // at))
    return 2 << most


def lone_roots_by_prime(wholes):
    """(prime, roots): a prime not in the last number, and the polynomial's roots by it, none of them repeated."""
    slope = whole_slope(wholes)
    prime = 2
    while True:
        if wholes[-1] % prime != 0:
            roots = roots_by_prime(wholes, prime)
            if all(value_by(slope, root, prime) != 0 for root in roots):
                return prime, roots
        prime = prime_behind(prime)


def roots_by_prime(wholes, prime):
    """The numbers from 0 on below the prime at which the prime divides the polynomial."""
    rests = [number % prime for number in wholes]
    return [root for root in range(prime) if value_by(rests, root, prime) == 0]


def prime_behind(prime):
    """The next prime."""
    number = prime + 1
    while any(number % divisor == 0 for divisor in range(2, number)):
        number += 1
    return number


def value_by(wholes, at, modulus):
    """The rest that the value at a whole number leaves when divided by the modulus."""
    value = 0
    for number in reversed(wholes):
        value = (value * at + number) % modulus
    return value


def lifted(wholes, root, prime, beyond):
    """(root, modulus): the root by a power of the prime that is beyond the number, of one by the prime."""
    slope = whole_slope(wholes)
    slant = value_by(slope, root, prime)
    over = [number for number in range(prime) if number * slant % prime == 1][0]
    modulus = prime
    while modulus <= beyond:
        # By the square of the modulus: over stays what times the slope leaves 1.
        modulus *= modulus
        root = (root - value_by(wholes, root, modulus) * over) % modulus
        over = over * (2 - value_by(slope, root, modulus) * over) % modulus
    return root, modulus
