"""Views, and the rows of them that come in some weaving (section 13)."""

from fewplaymany.kinds import is_word
from fewplaymany.lots import lies_in, lots_within


def is_view(value, hand, many, rounds):
    """Whether value is a view of so many rounds of this hand of many."""
    if rounds == 0:
        return is_word(value)
    if not isinstance(value, tuple) or len(value) != many or value[hand] is None:
        return False
    return all([thing is None or is_view(thing, at, many, rounds - 1) for at, thing in enumerate(value)])


def rows_of_views(many, rounds, words):
    """All rows of views of the hands with a word, when all of them say."""
    came = [hand for hand, word in enumerate(words) if word is not None]
    sights = sights_of(many, came)
    rows = [words]
    for _ in range(rounds):
        rows = [row_behind(row, sight) for row in rows for sight in sights]
    return rows


def sights_of(many, came):
    """All ways in which those who came can see one another in a round.

    Each has for each hand the lot of those whose writes it sees, None if it did not come.
    All looks stand in one sequence, and what was written stays: so of two lots one holds the other.
    """
    sights = [()]
    for hand in range(many):
        lots = [lot for lot in lots_within(came) if hand in lot] if hand in came else [None]
        sights = [(*sight, lot) for sight in sights for lot in lots if fits(lot, sight)]
    return sights


def fits(lot, sight):
    """Whether what a hand sees may stand beside what others see."""
    if lot is None:
        return True
    return all([other is None or lies_in(lot, other) or lies_in(other, lot) for other in sight])


def row_behind(row, sight):
    """The row of views behind one round more, in which hands see one another so."""
    return tuple([None if lot is None else view_of(row, lot) for lot in sight])


def view_of(row, lot):
    """The view of a hand that sees what the hands of a lot wrote, their views being row."""
    return tuple([view if hand in lot else None for hand, view in enumerate(row)])


def all_words(words, many):
    """All ways in which so many hands bring some of these words, or never come, but that nobody comes."""
    ways = [()]
    for _ in range(many):
        ways = [(*way, word) for way in ways for word in (None, *words)]
    return ways[1:]
