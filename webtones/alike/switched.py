"""Webs switched by some of their places: other ties, the same tones."""

from webtones.errors import NoParting
from webtones.webs.without import check_names


def switched(web, names):
    """The web switched by these places; or NoName, or NoParting where it cannot be."""
    check_names(web, names)
    if len(names) == 0:
        raise NoParting("no place is switched")
    inner = [at for at, name in enumerate(web[0]) if name in names]
    check_even(web[1], inner)
    table = [list(weights) for weights in web[1]]
    for place in range(len(table)):
        if place not in inner and is_turned(web[1], place, inner):
            for beside in inner:
                table[place][beside] = 1 - web[1][place][beside]
                table[beside][place] = table[place][beside]
    return web[0], tuple([tuple(weights) for weights in table])


def check_even(table, inner):
    """NoParting where the places among themselves are not even as one part."""
    sums = [sum(table[place][beside] for beside in inner) for place in inner]
    if any(number != sums[0] for number in sums):
        raise NoParting("the switched places are not even among themselves")


def is_turned(table, place, inner):
    """Whether the ties of a place of the rest are turned about, not all of one weight; or NoParting."""
    weights = [table[place][beside] for beside in inner]
    if all(weight == weights[0] for weight in weights):
        return False
    if 2 * weights.count(1) == len(weights) == 2 * weights.count(0):
        return True
    raise NoParting("a place of the rest has unlike ties with the switched ones")
