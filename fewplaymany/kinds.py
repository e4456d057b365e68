"""Of what kind a value is, and which integer a word of a text writes (section 2)."""

LETTERS = "abcdefghijklmnopqrstuvwxyz"
FIGURES = "0123456789"

# Python itself refuses to read integers of more than 4300 figures.
MOST_FIGURES = 4000

MOST_WEAVING = 3000


def is_whole(value):
    """Whether value is an integer: an int that is not a bool."""
    return isinstance(value, int) and not isinstance(value, bool)


def is_word(value):
    """Whether value is a WORD."""
    return is_whole(value) and 0 <= value <= 99


def is_lot(value):
    """Whether value is a lot."""
    if not isinstance(value, tuple):
        return False
    if not all([is_whole(thing) and thing >= 0 for thing in value]):
        return False
    return all([one < other for one, other in zip(value, value[1:])])


def is_below(value, many):
    """Whether value is the number of one of so many hands, or other things."""
    return is_whole(value) and 0 <= value < many


def is_weaving(value, many):
    """Whether value is a weaving of so many hands."""
    if not isinstance(value, tuple) or len(value) > MOST_WEAVING:
        return False
    return all([is_below(thing, many) for thing in value])


def are_words(value, many):
    """Whether value is a tuple of a WORD or None for each of so many hands."""
    if not isinstance(value, tuple) or len(value) != many:
        return False
    return all([thing is None or is_word(thing) for thing in value])


def is_name(word):
    """Whether a word of a text is a name."""
    if not 1 <= len(word) <= 8:
        return False
    return word[0] in LETTERS and all([sign in LETTERS or sign in FIGURES for sign in word])


def integer_in(word):
    """The integer that word writes as Python does, None if it writes none."""
    figures = word[1:] if word.startswith("-") else word
    if not figures or len(figures) > MOST_FIGURES:
        return None
    if not all([sign in FIGURES for sign in figures]):
        return None
    if figures[0] == "0" and word != "0":
        return None
    return int(word)


def number_in(word, least, most):
    """The integer from least to most that word writes, None if it writes none."""
    number = integer_in(word)
    return number if number is not None and least <= number <= most else None
