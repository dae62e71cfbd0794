"""Webs that are kept and changed, and polynomials by the weight of one tie."""

from webtones.errors import NoName
from webtones.roots.polynomials import poly_less, poly_times
from webtones.webs.tones import poly_of
from webtones.webs.walks import closed_walks
from webtones.webs.without import check_names, web_without

ONE = ((1, 1),)
HALF = ((1, 2),)


class KeptWeb:
    """A web that begins with one place; places are put in and taken out, and ties changed."""

    def __init__(self, name):
        # A web as it is told is never changed: each deed makes another one.
        self.now = ((name,), ((0,),))

    def put_place(self, name):
        """Puts a place in behind the others, without ties; or NoName for a name that is there."""
        names, table = self.now
        if name in names:
            raise NoName(name)
        rows = [weights + (0,) for weights in table]
        self.now = (names + (name,), tuple(rows) + ((0,) * (len(names) + 1),))

    def take_place(self, name):
        """Takes a place out; or NoName for a name that is not there, NoWeb for the only one."""
        self.now = web_without(self.now, (name,))

    def tie(self, one, other, weight):
        """Changes the tie of two places, perhaps one with itself, to the weight; or NoName."""
        for name in (one, other):
            if name not in self.now[0]:
                raise NoName(name)
        self.now = web_tied(self.now, one, other, weight)

    def web(self):
        """The web as it is now."""
        return self.now

    def poly(self):
        """The polynomial of the web as it is now."""
        return poly_of(self.now[1])

    def closed(self, many):
        """The sum of the weights of all closed walks of so many ties, in the web as it is now."""
        return closed_walks(self.now, many)


def web_tied(web, one, other, weight):
    """The web with the tie of two of its places, perhaps one with itself, changed to the weight."""
    names, table = web
    at = names.index(one)
    beside = names.index(other)
    rows = [list(weights) for weights in table]
    rows[at][beside] = weight
    rows[beside][at] = weight
    return names, tuple([tuple(weights) for weights in rows])


def tie_polys(web, one, other):
    """(old, between, both) of two unlike places; or NoName.

    With a tie of weight w the web's polynomial is old, less 2 w times between, less w w times both.
    """
    check_names(web, (one, other))
    old = poly_of(web_tied(web, one, other, 0)[1])
    both = poly_of(web_without(web, (one, other))[1]) if len(web[0]) > 2 else ONE
    # With a tie of weight 1 the polynomial is old, less 2 times between, less both.
    tied = poly_of(web_tied(web, one, other, 1)[1])
    between = poly_times(poly_less(poly_less(old, both), tied), HALF)
    return old, between, both
