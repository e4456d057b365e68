"""Words that are right for a lot, and the chains that join them (section 12)."""

from fewplaymany.kinds import is_whole


class Ground:
    """What two hands that never wait may walk on, by a task.

    `alone` has for each word of the task the words that are right alone for it. `parts` has
    for each two words of the task, the lesser one first, each word that is right alone for
    the lot of both, with the number of its part: chains join just the words of one part.
    """

    def __init__(self, task):
        self.words = task.words
        self.alone = {word: right_alone(task, (word,)) for word in task.words}
        pairs = [(one, other) for one in task.words for other in task.words if one < other]
        self.parts = {pair: parts_of(task, pair) for pair in pairs}

    def joins(self, one, other):
        """Whether a chain leads from the one to the other, both (word of the task, what is said for it)."""
        (word, said), (beside, said_beside) = sorted([one, other])
        part = self.parts[(word, beside)]
        return part[said] == part[said_beside]


def right_alone(task, lot):
    """All words that are right alone for a lot, ascending."""
    return tuple([word for word in task.spoken if task.right(lot, (word,))])


def parts_of(task, lot):
    """Each word that is right alone for a lot, with the number of its part."""
    words = right_alone(task, lot)
    parts = {word: number for number, word in enumerate(words)}
    for one in words:
        for other in words:
            if one < other and task.right(lot, (one, other)):
                parts = united(parts, parts[one], parts[other])
    return parts


def united(parts, one, other):
    """The parts, one of which and another one are one from now on."""
    return {word: one if number == other else number for word, number in parts.items()}


def is_chain(task, lot, value):
    """Whether value is a chain of a lot."""
    if not isinstance(value, tuple) or value == ():
        return False
    words = right_alone(task, lot)
    if not all([is_whole(word) and word in words for word in value]):
        return False
    return all([one == other or task.right(lot, tuple(sorted([one, other]))) for one, other in zip(value, value[1:])])
