"""Signs of ties: balanced webs, rings that show that a web is none, and webs turned by a part."""

from webtones.roots.fractions import sign_of
from webtones.webs.without import check_names


def balance(web):
    """("balanced", names) of the sides with the first names, or ("odd", names) of a ring."""
    names, table = web
    paths = paths_of(table)
    sides = [path_sign(table, paths[place]) for place in range(len(names))]
    for at in range(len(names)):
        for beside in range(at, len(names)):
            if is_wrong(table[at][beside], sides[at] * sides[beside]):
                return "odd", tuple([names[place] for place in ring_of(paths[at], paths[beside])])
    return "balanced", tuple([name for name, side in zip(names, sides) if side == 1])


def paths_of(table):
    """For each place a path to it, a tuple of places, from the first place that it hangs together with."""
    paths = {}
    for start in range(len(table)):
        waiting = [] if start in paths else [(start,)]
        while waiting:
            path = waiting.pop()
            place = path[-1]
            if place not in paths:
                paths[place] = path
                waiting.extend([path + (beside,) for beside in range(len(table)) if table[place][beside] != 0])
    return paths


def path_sign(table, path):
    """1 where an even number of the path's ties weighs below 0, else -1; 0 where neighbours are not tied."""
    sign = 1
    for at in range(1, len(path)):
        sign *= sign_of(table[path[at - 1]][path[at]])
    return sign


def is_wrong(weight, sign):
    """Whether there is a tie, and of another sign."""
    return weight != 0 and sign_of(weight) != sign


def ring_of(one, other):
    """The ring of the tie between the ends of two paths, and of both back to the last place that they share."""
    shared = 0
    while shared < min(len(one), len(other)) and one[shared] == other[shared]:
        shared += 1
    return one[shared - 1:] + other[shared - 1:][::-1]


def balance_shown(web, told):
    """Whether the told thing, a side or a ring, is let by: then the web is balanced, or is not."""
    if not isinstance(told, tuple) or len(told) != 2 or not isinstance(told[1], tuple):
        return False
    word, names = told
    if not all(name in web[0] for name in names):
        return False
    if word == "balanced":
        return is_side(web, names)
    return word == "odd" and is_odd_ring(web, names)


def is_side(web, names):
    """Whether ties between these names, each once, and the others weigh below 0, and all others above 0."""
    sides = [1 if name in names else -1 for name in web[0]]
    if len(set(names)) != len(names):
        return False
    return not any(
        is_wrong(weight, side * beside)
        for weights, side in zip(web[1], sides)
        for weight, beside in zip(weights, sides)
    )


def is_odd_ring(web, names):
    """Whether the names are those of a ring with an odd number of ties below 0."""
    inner = names[1:]
    if len(names) < 2 or len(names) == 3 or names[0] != names[-1] or len(set(inner)) != len(inner):
        return False
    return path_sign(web[1], [web[0].index(name) for name in names]) == -1


def turned_by(web, names):
    """The web in which each tie with just one end in the part has the other sign; or NoName."""
    check_names(web, names)
    sides = [-1 if name in names else 1 for name in web[0]]
    table = [
        tuple([weight * side * beside for weight, beside in zip(weights, sides)])
        for weights, side in zip(web[1], sides)
    ]
    return web[0], tuple(table)
