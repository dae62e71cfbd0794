"""Webs laid beside one another and crossed, and how polynomials tell of it."""

from webtones.errors import NoName
from webtones.webs.tables import row_times, table_of, table_plus
from webtones.webs.walks import sums_by_poly
from webtones.webs.words import is_name


def beside_webs(one, other):
    """The web of the places of both, names with a and b ahead; or NoName."""
    names = new_names(["a" + name for name in one[0]] + ["b" + name for name in other[0]])
    left = [weights + (0,) * len(other[0]) for weights in one[1]]
    right = [(0,) * len(one[0]) + weights for weights in other[1]]
    return names, tuple(left + right)


def product_web(one, other):
    """The web of a place for each two, tied by the product of weights; or NoName."""
    return crossed_names(one, other), crossed_table(one[1], other[1])


def sum_web(one, other):
    """The web of a place for each two, tied by the one's weight where the other's are the same, or so; or NoName."""
    names = crossed_names(one, other)
    slow = crossed_table(one[1], table_of(len(other[0]), 1))
    fast = crossed_table(table_of(len(one[0]), 1), other[1])
    return names, table_plus(slow, fast)


def crossed_names(one, other):
    """A name for each two, the one's going slowly; or NoName."""
    return new_names(["a" + name + "b" + beside for name in one[0] for beside in other[0]])


def new_names(names):
    """The names, or NoName for the first that is too long or stands ahead already."""
    for at, name in enumerate(names):
        if not is_name(name) or name in names[:at]:
            raise NoName(name)
    return tuple(names)


def crossed_table(one, other):
    """The table of all products of a number of the one and a number of the other."""
    return tuple([
        tuple([number * factor for number in numbers for factor in factors])
        for numbers in one
        for factors in other
    ])


def kinds_of(one, other, third):
    """Which of "beside", "product" and "sum" the third polynomial is of the two others, sorted."""
    many = len(third) - 1
    ours = sums_from_nought(one, many)
    theirs = sums_from_nought(other, many)
    told = sums_from_nought(third, many)
    kinds = []
    if told == [left + right for left, right in zip(ours, theirs)]:
        kinds.append("beside")
    if told == [left * right for left, right in zip(ours, theirs)]:
        kinds.append("product")
    if told == sums_of_sums(ours, theirs):
        kinds.append("sum")
    return tuple(kinds)


def sums_from_nought(poly, many):
    """The sums of the roots' powers from 0, their number, to many, of whole numbers with 1 as the last one."""
    # By whole numbers with 1 as the last the sums are whole.
    return [len(poly) - 1] + [above for above, below in sums_by_poly(poly, many)]


def sums_of_sums(ours, theirs):
    """The sums of the powers of all sums of two roots, told by the sums of the powers of each."""
    told = []
    choices = [1]
    for power in range(len(ours)):
        products = [left * right for left, right in zip(ours[:power + 1], theirs[power::-1])]
        told.append(row_times(choices, products))
        choices = [left + right for left, right in zip(choices + [0], [0] + choices)]
    return told
