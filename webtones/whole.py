"""The desk: a web that is changed and asked by lines."""

from webtones.alike.signs import balance
from webtones.errors import NoAsk
from webtones.kept import KeptWeb
from webtones.roots.compared import compared_with
from webtones.roots.fractions import fraction_of
from webtones.roots.roots import narrowed, roots_of
from webtones.trees.spanning import trees_by_table
from webtones.webs.partings import coarsest_even
from webtones.webs.texts import web_shown
from webtones.webs.words import is_name, whole_in

MOST_PLACES = 8
MOST_WEIGHT = 99
MOST_TIES = 40
SIDES = {-1: "less", 0: "same", 1: "greater"}


class Desk:
    """Keeps a web, at first of one place a without ties."""

    def __init__(self):
        self.kept = KeptWeb("a")

    def ask(self, line):
        """What the line asks for, a list of texts; or NoAsk, NoName, NoRoot."""
        kept = self.kept
        match line.split(" "):
            case ["place", name]:
                return put_in(kept, name)
            case ["leave", name]:
                return take_out(kept, name)
            case ["tie", one, other, weight]:
                return change_tie(kept, one, other, weight)
            case ["web"]:
                return web_shown(kept.web()).split("\n")
            case ["poly"]:
                return [" ".join([str(above) for above, below in kept.poly()])]
            case ["tones"]:
                return tone_lines(kept.poly())
            case ["side", number, fraction]:
                return side_of(kept.poly(), number, fraction)
            case ["closed", many]:
                return closed_by(kept, many)
            case ["trees"]:
                return trees_of(kept.web())
            case ["balance"]:
                return balance_lines(kept.web())
            case ["parts"]:
                return part_lines(kept.web())
        raise NoAsk("no such line is asked")


def put_in(kept, word):
    """Puts the place in; or NoAsk."""
    name = name_in(word)
    names = kept.web()[0]
    if len(names) >= MOST_PLACES or name in names:
        raise NoAsk("no place is put in: there are eight, or one has that name")
    kept.put_place(name)
    return []


def take_out(kept, word):
    """Takes the place out; or NoAsk, NoName."""
    name = name_in(word)
    if len(kept.web()[0]) == 1:
        raise NoAsk("the only place does not leave")
    kept.take_place(name)
    return []


def change_tie(kept, first, second, word):
    """Changes the tie to the weight; or NoAsk, NoName."""
    one = name_in(first)
    other = name_in(second)
    kept.tie(one, other, number_in(word, -MOST_WEIGHT, MOST_WEIGHT))
    return []


def tone_lines(poly):
    """A line for each tone, rising."""
    return [
        f"{tone_shown(poly, number, stretch)} {times}"
        for number, (stretch, times) in enumerate(roots_of(poly))
    ]


def tone_shown(poly, number, stretch):
    """The tone of that number, where it is whole, or the whole numbers next below and above it."""
    low, high = narrowed(poly, stretch, (1, 1))
    whole = low[0] // low[1]
    # A fraction that is a tone is whole, as the polynomial has whole numbers with 1 as the last one.
    if low == high:
        return f"{whole}"
    if compared_with(poly, number, (whole + 1, 1)) > 0:
        whole += 1
    return f"{whole} {whole + 1}"


def side_of(poly, word, text):
    """Whether the tone of that number is less than, the same as or greater than the fraction; or NoAsk, NoRoot."""
    number = whole_in(word)
    if number is None:
        raise NoAsk("that is no number")
    return [SIDES[compared_with(poly, number, fraction_in(text))]]


def closed_by(kept, word):
    """The closed walks of so many ties; or NoAsk."""
    return [f"{kept.closed(number_in(word, 0, MOST_TIES))}"]


def trees_of(web):
    """How many trees span the web; or NoAsk where it has a weight below 0 or a place tied with itself."""
    for at, weights in enumerate(web[1]):
        if weights[at] != 0 or min(weights) < 0:
            raise NoAsk("trees are told by weights from 0 on, and of no place with itself")
    return [f"{trees_by_table(web)}"]


def balance_lines(web):
    """The word of the balance, and the names of the part or of the ring, in one line."""
    word, names = balance(web)
    return [" ".join((word,) + names)]


def part_lines(web):
    """The names of each part of the coarsest even parting."""
    return [" ".join(part) for part in coarsest_even(web, (web[0],))]


def name_in(word):
    """The name that the word is; or NoAsk."""
    if not is_name(word):
        raise NoAsk("that is no name")
    return word


def number_in(word, least, most):
    """The whole number that the word writes, from least to most; or NoAsk."""
    number = whole_in(word)
    if number is None or not least <= number <= most:
        raise NoAsk("that is no number, or none that may stand there")
    return number


def fraction_in(text):
    """The fraction that the text writes, as A or as A/B, B from 1 on; or NoAsk."""
    words = text.split("/")
    above = whole_in(words[0])
    below = whole_in(words[1]) if len(words) == 2 else 1
    if len(words) > 2 or above is None or below is None or below < 1:
        raise NoAsk("that is no fraction")
    return fraction_of(above, below)
