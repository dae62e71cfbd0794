"""Webs without some of their places, and how their tones lie between the old ones."""

from webtones.errors import NoName, NoWeb
from webtones.roots.compared import ranks_of
from webtones.roots.fractions import sign_of
from webtones.roots.roots import roots_of
from webtones.webs.tones import poly_of


def web_without(web, names):
    """The web without these places, or NoName, or NoWeb where none stays."""
    check_names(web, names)
    stay = [at for at, name in enumerate(web[0]) if name not in names]
    if not stay:
        raise NoWeb(0)
    table = [tuple([web[1][at][beside] for beside in stay]) for at in stay]
    return tuple([web[0][at] for at in stay]), tuple(table)


def check_names(web, names):
    """NoName for the first name that is none of the web's, or was told ahead already."""
    for at, name in enumerate(names):
        if name not in web[0] or name in names[:at]:
            raise NoName(name)


def held_between(web, name):
    """For each tone of the web without the place: how the old one compares with it, and it with the next old one."""
    lesser = web_without(web, (name,))
    old_poly = poly_of(web[1])
    new_poly = poly_of(lesser[1])
    old_ranks, new_ranks = ranks_of(old_poly, new_poly)
    old = repeated(old_ranks, roots_of(old_poly))
    new = repeated(new_ranks, roots_of(new_poly))
    return tuple([(sign_of(old[at] - rank), sign_of(rank - old[at + 1])) for at, rank in enumerate(new)])


def repeated(ranks, roots):
    """The ranks of the roots, each as often as its root comes."""
    return [rank for rank, (stretch, times) in zip(ranks, roots) for again in range(times)]


def polys_without(web):
    """For each place, in order, the polynomial of the web without it."""
    return tuple([poly_of(web_without(web, (name,))[1]) for name in web[0]])
