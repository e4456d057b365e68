"""Lots made of words, and how they lie in one another."""


def lot_of(words):
    """The lot of all unlike ones of some words."""
    return tuple(sorted(set(words)))


def lies_in(lot, other):
    """Whether each word of lot is one of other."""
    return all([word in other for word in lot])


def lots_within(words):
    """All lots but the empty one that lie in a lot of words."""
    lots = [()]
    for word in words:
        lots = lots + [lot + (word,) for lot in lots]
    return lots[1:]


def greatest_lots(lots):
    """The ascending tuple of those lots that lie in no other one."""
    unlike = sorted(set(lots))
    kept = []
    # A lot can lie in a longer one only, so the longest ones are looked at first.
    for lot in sorted(unlike, key=len, reverse=True):
        if not any([lies_in(lot, other) for other in kept]):
            kept.append(lot)
    return tuple(sorted(kept))
