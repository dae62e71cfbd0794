"""The words that texts are made of: names, and whole numbers in figures."""

LETTERS = "abcdefghijklmnopqrstuvwxyz"
FIGURES = "0123456789"
LONGEST_NAME = 8


def is_made_of(word, signs):
    """Whether each sign of the word is one of these signs."""
    return all(sign in signs for sign in word)


def is_name(word):
    """Whether the word is a name: one to eight small letters."""
    return 1 <= len(word) <= LONGEST_NAME and is_made_of(word, LETTERS)


def whole_in(word):
    """The whole number that the word writes in figures, or None where it writes none."""
    figures = word[1:] if word.startswith("-") else word
    if figures == "" or not is_made_of(figures, FIGURES):
        return None
    # A nought ahead is wrong, but 0 itself is one nought; -0 is not.
    if figures.startswith("0") and word != "0":
        return None
    return int(word)
