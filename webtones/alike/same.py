"""Webs that are the same but for names, and papers that two are not."""

from webtones.roots.fractions import is_whole


def telling(one, other):
    """The first telling of the second web's names for the first one's, or None."""
    if len(one[0]) != len(other[0]):
        return None
    names = other[0]
    order = sorted(range(len(names)), key=lambda place: names[place])
    places = telling_behind(one, other, (), order)
    if places is None:
        return None
    return tuple([names[place] for place in places])


def telling_behind(one, other, told, order):
    """The first telling, as places of the second web, tried in this order, that begins by the told ones; or None."""
    if len(told) == len(order):
        return told
    for place in order:
        if place not in told and unlike_place(one, other, told + (place,)) is None:
            found = telling_behind(one, other, told + (place,), order)
            if found is not None:
                return found
    return None


def unlike_place(one, other, told):
    """The first place of the first web whose tie with the place just told weighs otherwise in the second; or None."""
    last = len(told) - 1
    for place in range(len(told)):
        if one[1][place][last] != other[1][told[place]][told[last]]:
            return place
    return None


def no_telling_paper(one, other):
    """A paper that there is no telling, of two webs with as many places."""
    paper = []
    add_knots(one, other, (), paper)
    return tuple(paper)


def add_knots(one, other, told, paper):
    """Adds the knot at which so much is told, and all to which it leads, to the paper; its number is told."""
    number = len(paper)
    unlike = unlike_place(one, other, told)
    if unlike is not None:
        paper.append(("unlike", one[0][unlike]))
        return number
    # The knots to which it leads come behind it, so the knot itself is told last.
    paper.append(())
    knots = []
    for place in places_left(other, told):
        knots.append(add_knots(one, other, told + (place,), paper))
    paper[number] = ("try", tuple(knots))
    return number


def places_left(web, told):
    """The places of the web, in order, that are not told yet."""
    return [place for place in range(len(web[0])) if place not in told]


def no_telling_shown(one, other, paper):
    """Whether the paper, any tuple, is let by: then there is no telling."""
    if len(one[0]) != len(other[0]) or not isinstance(paper, tuple) or len(paper) == 0:
        return False
    named = {}
    waiting = [(0, ())]
    while waiting:
        number, told = waiting.pop()
        knot = paper[number]
        if not is_knot(knot):
            return False
        if knot[0] == "try":
            places = places_left(other, told)
            if not is_try(knot[1], number, len(paper), len(places), named):
                return False
            waiting.extend([(behind, told + (place,)) for behind, place in zip(knot[1], places)])
        elif not is_unlike(one, other, told, knot[1]):
            return False
    return True


def is_knot(knot):
    """Whether the thing is a pair whose first word is one of a knot's."""
    return isinstance(knot, tuple) and len(knot) == 2 and knot[0] in ("try", "unlike")


def is_try(knots, number, end, many, named):
    """Whether the knots are so many, at least one, each behind this one and named once; these are named then."""
    if not isinstance(knots, tuple) or len(knots) != many or many == 0:
        return False
    for knot in knots:
        if not is_whole(knot) or not number < knot < end or knot in named:
            return False
        named[knot] = True
    return True


def is_unlike(one, other, told, name):
    """Whether the name is that of a told place whose tie with the one just told weighs otherwise."""
    if name not in one[0][:len(told)]:
        return False
    place = one[0].index(name)
    last = len(told) - 1
    return one[1][place][last] != other[1][told[place]][told[last]]
