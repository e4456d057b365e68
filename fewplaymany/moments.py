"""Moments: where the hands of a program stand, and all moments that its runs come to."""

from fewplaymany.lots import lot_of
from fewplaymany.rows import exchanged
from fewplaymany.steps import step_text


class Moment:
    """Where the hands of a PROGRAM stand; a moment itself never changes.

    `words`, `hands`, `boards` and `said` are as in a House. `begun` tells of each hand
    whether it has a STEP. `pasts` has for each the text of all on which its further steps
    hang: its STEPs but looks in vain, by which a hand knows no more than it did.
    """

    def __init__(self, words, hands, boards, said, begun, pasts):
        self.words = words
        self.hands = hands
        self.boards = boards
        self.said = said
        self.begun = begun
        self.pasts = pasts

    def may_step(self, hand):
        """Whether a hand comes, and has not said."""
        return self.hands[hand] is not None and self.hands[hand].due is not None

    def behind(self, hand):
        """The moment behind the next step of a hand that goes on."""
        moved = self.hands[hand].copy()
        number, kind, matter = moved.step(self.boards)
        hands = exchanged(self.hands, hand, moved)
        boards = exchanged(self.boards, hand, matter) if kind == "write" else self.boards
        said = exchanged(self.said, hand, matter) if kind == "say" else self.said
        begun = exchanged(self.begun, hand, True)
        line = "" if moved.in_vain else step_text((number, kind, matter)) + "\n"
        return Moment(self.words, hands, boards, said, begun, exchanged(self.pasts, hand, self.pasts[hand] + line))

    def is_waiting(self, hand):
        """Whether a hand that goes on looks in vain, and again so as long as boards stay as they are."""
        return self.behind(hand).hands[hand].in_vain

    def key(self):
        """What tells a moment from those from which other steps, or words brought, come."""
        return "\n".join([*self.pasts, *[str(begun) for begun in self.begun]])

    def lot_brought(self):
        """The lot of the words of hands with a STEP."""
        return lot_of([word for word, begun in zip(self.words, self.begun) if begun])

    def lot_said(self):
        """The lot of all words said."""
        return lot_of([word for word in self.said if word is not None])


def first_moment(program, words):
    """The moment ahead of all steps."""
    hands = tuple([None if word is None else program.enter(hand, word) for hand, word in enumerate(words)])
    nothing = (None,) * program.many
    return Moment(words, hands, nothing, nothing, (False,) * program.many, ("",) * program.many)


def moments_of(program, words):
    """All unlike moments, each as (moment, a shortest weaving behind which it stands), the shortest ones first."""
    first = first_moment(program, words)
    found = [(first, ())]
    keys = set()
    keys.add(first.key())
    at = 0
    while at < len(found):
        moment, weaving = found[at]
        at += 1
        for hand in range(program.many):
            if moment.may_step(hand):
                behind = moment.behind(hand)
                key = behind.key()
                if key not in keys:
                    keys.add(key)
                    found.append((behind, (*weaving, hand)))
    return found
