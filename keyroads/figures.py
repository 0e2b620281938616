"""Numbers in texts: each is written in one way alone, without a sign and without a 0 ahead of other figures."""

FIGURES = "0123456789"


def number_in(word):
    """The count that a word tells, None if it is not written as counts are."""
    if not word or not all([letter in FIGURES for letter in word]) or (word[0] == "0" and len(word) > 1):
        return None
    number = 0
    # Python itself refuses to read a number of very many figures.
    for letter in word:
        number = 10 * number + FIGURES.index(letter)
    return number


def numbers_in(words):
    """The list of the counts that words tell, None for each that is not written as counts are."""
    return [number_in(word) for word in words]


def row_of(word, items):
    """A word and some items behind it, with single spaces between."""
    return " ".join([word] + [str(item) for item in items])
