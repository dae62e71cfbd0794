"""Webs, written as texts and read from them."""

from webtones.errors import NoWeb
from webtones.webs.words import is_name, whole_in


def read_web(text):
    """The web that the text writes, or NoWeb, which keeps the first row that is wrong."""
    lines = text.split("\n")
    names = names_in(lines[0])
    places = {name: at for at, name in enumerate(names)}
    table = [[0] * len(names) for name in names]
    for row, line in enumerate(lines[1:], start=1):
        one, other, weight = tie_in(line, row, places)
        # No tie weighs 0, so a weight that stands there is that of a row ahead.
        if table[one][other] != 0:
            raise NoWeb(row)
        table[one][other] = weight
        table[other][one] = weight
    return names, tuple([tuple(weights) for weights in table])


def names_in(line):
    """The names of the first row, each once, or NoWeb."""
    names = line.split(" ")
    if not all(is_name(name) for name in names) or len(set(names)) != len(names):
        raise NoWeb(0)
    return tuple(names)


def tie_in(line, row, places):
    """The tie of a row: the numbers of its two places, and its weight; or NoWeb."""
    words = line.split(" ")
    if len(words) != 2 and len(words) != 3:
        raise NoWeb(row)
    one = places.get(words[0])
    other = places.get(words[1])
    weight = whole_in(words[2]) if len(words) == 3 else 1
    if one is None or other is None or weight is None or weight == 0:
        raise NoWeb(row)
    return one, other, weight


def web_shown(web):
    """The text of the web: its names in a row, then a row for each tie."""
    names, table = web
    lines = [" ".join(names)]
    for at, name in enumerate(names):
        for beside in range(at, len(names)):
            weight = table[at][beside]
            if weight != 0:
                lines.append(f"{name} {names[beside]} {weight}")
    return "\n".join(lines)
