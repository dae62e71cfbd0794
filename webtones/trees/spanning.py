"""Trees that span a web, counted three ways and told, and the parts of a web that hang together."""

from webtones.webs.tones import determinant, whole_poly_of

MOST_TREES = 1000


def rest_table(web):
    """The rest table: at a place with itself the sum of its ties' weights, with another one less the weight."""
    return tuple([
        tuple([sum(weights) if at == beside else -weight for beside, weight in enumerate(weights)])
        for at, weights in enumerate(web[1])
    ])


def trees_by_table(web):
    """How many trees span the web, by the determinant of the rest table without its last place."""
    lesser = tuple([numbers[:-1] for numbers in rest_table(web)[:-1]])
    return determinant(lesser) if lesser else 1


def trees_by_tones(web):
    """How many trees span the web, by the product of the rest table's tones but one of 0."""
    many = len(web[0])
    # Up to the sign, the number of x is that product: 0 is a tone, and all other products have it.
    product = whole_poly_of(rest_table(web))[1]
    return (product if many % 2 == 1 else -product) // many


def trees_by_going(web):
    """How many trees span the web, by going through what ties are taken."""
    return trees_through(web[1])


def trees_through(table):
    """How many trees span the places: for each tie of the last one, those that have it and no earlier tie of it."""
    last = len(table) - 1
    if last == 0:
        return 1
    weights = table[last]
    return sum(weights[at] * trees_through(last_joined(table, at)) for at in range(last) if weights[at] != 0)


def last_joined(table, place):
    """The table without its last place, whose ties behind the one with that place are that place's now."""
    last = len(table) - 1
    told = [list(weights[:last]) for weights in table[:last]]
    for beside in range(place + 1, last):
        told[place][beside] += table[last][beside]
        told[beside][place] += table[last][beside]
    return told


def spanning_trees(web):
    """The trees that span a web with weights 0 and 1, in their order: the first 1000, tuples of ties."""
    names, table = web
    ties = ties_in(table)
    told = []
    add_trees(ties, list(range(len(names))), (), told)
    return [tuple([(names[ties[at][0]], names[ties[at][1]]) for at in tree]) for tree in told]


def ties_in(table):
    """The ties between unlike places, in the order of a web's rows: pairs of places."""
    many = len(table)
    return [(at, beside) for at in range(many) for beside in range(at + 1, many) if table[at][beside] != 0]


def add_trees(ties, firsts, taken, trees):
    """Adds the trees, as numbers of ties, that have the taken ties and else later ones, till there are enough."""
    if not any(firsts):
        trees.append(taken)
        return
    for at in range(taken[-1] + 1 if taken else 0, len(ties)):
        # Where all ties that are left do not join all places, no tree comes any more.
        if len(trees) == MOST_TREES or any(firsts_joined(firsts, ties[at:])):
            return
        one, other = ties[at]
        if firsts[one] != firsts[other]:
            add_trees(ties, firsts_joined(firsts, [ties[at]]), taken + (at,), trees)


def firsts_joined(firsts, ties):
    """For each place the first one that it hangs together with, when these ties are added."""
    for one, other in ties:
        low = min(firsts[one], firsts[other])
        high = max(firsts[one], firsts[other])
        firsts = [low if first == high else first for first in firsts]
    return firsts


def hanging_parts(web):
    """The parts of the web that hang together by ties of any weight but 0."""
    names, table = web
    firsts = firsts_joined(list(range(len(names))), ties_in(table))
    return tuple([
        tuple([name for name, first in zip(names, firsts) if first == at])
        for at in range(len(names))
        if firsts[at] == at
    ])
