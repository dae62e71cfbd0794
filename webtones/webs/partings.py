"""Partings of a web's places, the even ones among them, and tables folded by these."""

from webtones.errors import NoParting
from webtones.roots.polynomials import poly_divided
from webtones.webs.tones import poly_of


def is_even(web, parting):
    """Whether the parting is even, or NoParting where it is none."""
    return is_even_in(web[1], parts_by_number(web, parting))


def folded(web, parting):
    """The table folded by the parting, or NoParting where it is none or not even."""
    table = web[1]
    parts = parts_by_number(web, parting)
    if not is_even_in(table, parts):
        raise NoParting("the parting is not even")
    return tuple([sums_to(table, part[0], parts) for part in parts])


def folded_polys(web, parting):
    """The folded table's polynomial, the web's, and how often the first is in the second; or NoParting."""
    small = poly_of(folded(web, parting))
    whole = poly_of(web[1])
    return small, whole, poly_divided(whole, small)[1]


def coarsest_even(web, parting):
    """The coarsest even parting each of whose parts lies in one of this one's, or NoParting."""
    names, table = web
    parts = parts_by_number(web, parting)
    finer = split_by_sums(table, parts)
    while len(finer) > len(parts):
        parts = finer
        finer = split_by_sums(table, parts)
    ordered = sorted([sorted(part) for part in parts])
    return tuple([tuple([names[place] for place in part]) for part in ordered])


def parts_by_number(web, parting):
    """The parts, each a list of the numbers of its places; or NoParting."""
    names = web[0]
    told = [name for part in parting for name in part]
    if any(len(part) == 0 for part in parting):
        raise NoParting("a part is empty")
    # As many as there are, and none lacking: so each is there just once, and no other one.
    if len(told) != len(names) or not all(name in told for name in names):
        raise NoParting("the parts have not each name once")
    numbers = {name: at for at, name in enumerate(names)}
    return [[numbers[name] for name in part] for part in parting]


def sums_to(table, place, parts):
    """The sums of the weights from the place to all of each part."""
    return tuple([sum(table[place][beside] for beside in part) for part in parts])


def is_even_in(table, parts):
    """Whether all places of a part have the same sums."""
    return all(sums_to(table, place, parts) == sums_to(table, part[0], parts) for part in parts for place in part)


def split_by_sums(table, parts):
    """The parts, each split in those whose places have the same sums."""
    finer = []
    for part in parts:
        alike = {}
        for place in part:
            alike.setdefault(sums_to(table, place, parts), []).append(place)
        finer.extend([alike[sums] for sums in alike])
    return finer
