"""What two hands that never wait can do: chains, joined choices, TREEs and plans (section 12)."""

from fewplaymany.errors import NotDone
from fewplaymany.kinds import is_whole
from fewplaymany.lots import lot_of
from fewplaymany.tables import decided, Tabled, wrong_row
from fewplaymany.values import is_same
from fewplaymany.walks import Ground, is_chain

# The greatest number of steps of a chain that so many rounds walk, which no chain needs more of.
STEPS = (1, 3, 9)


def chosen(task):
    """("words", pairs) of a joined choice, or ("none", TREE) if there is none."""
    return gone_through(Ground(task), ())


def gone_through(ground, taken):
    """As chosen, of all choices with these (word, said), which are joined."""
    if len(taken) == len(ground.words):
        return ("words", tuple(sorted(taken)))
    word = next_word(ground, taken)
    branches = []
    for said in ground.alone[word]:
        found = gone_into(ground, taken, (word, said))
        if found[0] == "words":
            return found
        branches.append((said, found[1]))
    return ("none", ("word", word, tuple(branches)))


def gone_into(ground, taken, pair):
    """As gone_through, of the branch on which this (word, said) is taken, too."""
    for other in taken:
        if not ground.joins(other, pair):
            return ("none", ("pair", *sorted([other[0], pair[0]])))
    return gone_through(ground, (*taken, pair))


def next_word(ground, taken):
    """The word, not taken yet, for which least can be chosen beside what is taken."""
    had = [pair[0] for pair in taken]
    left = [word for word in ground.words if word not in had]
    return min([(len(fitting(ground, taken, word)), word) for word in left])[1]


def fitting(ground, taken, word):
    """What can be chosen for a word beside what is taken."""
    return [said for said in ground.alone[word] if all([ground.joins(other, (word, said)) for other in taken])]


def shows_chosen(task, value):
    """Whether value is such a result as chosen tells."""
    if not isinstance(value, tuple) or len(value) != 2:
        return False
    ground = Ground(task)
    kind, matter = value
    if kind == "words":
        return is_choice(ground, matter) and is_joined(ground, matter)
    return kind == "none" and is_tree(ground, matter, ())


def is_choice(ground, value):
    """Whether value is the ascending tuple of (word, said) of a choice."""
    if not isinstance(value, tuple) or len(value) != len(ground.words):
        return False
    return all([is_said_for(ground, word, thing) for word, thing in zip(ground.words, value)])


def is_said_for(ground, word, value):
    """Whether value is (word, what is right for it alone)."""
    if not isinstance(value, tuple) or len(value) != 2:
        return False
    return is_same(value[0], word) and is_one_of(value[1], ground.alone[word])


def is_one_of(value, words):
    """Whether value is one of these words."""
    return is_whole(value) and value in words


def is_joined(ground, pairs):
    """Whether all (word, said) are joined with one another."""
    return all([ground.joins(one, other) for at, one in enumerate(pairs) for other in pairs[at + 1:]])


def is_tree(ground, value, taken):
    """Whether value is a TREE that goes through all choices with these (word, said)."""
    if not isinstance(value, tuple) or len(value) != 3:
        return False
    kind, one, other = value
    had = [pair[0] for pair in taken]
    if kind == "pair":
        if not is_one_of(one, had) or not is_one_of(other, had) or one >= other:
            return False
        return not ground.joins(taken[had.index(one)], taken[had.index(other)])
    if kind != "word" or not is_one_of(one, ground.words) or one in had:
        return False
    return has_branches(ground, other, one, taken)


def has_branches(ground, value, word, taken):
    """Whether value has just one branch for each word that can be chosen for this word of the task."""
    saids = ground.alone[word]
    if not isinstance(value, tuple) or len(value) != len(saids):
        return False
    for said, branch in zip(saids, value):
        if not isinstance(branch, tuple) or len(branch) != 2 or not is_same(branch[0], said):
            return False
        if not is_tree(ground, branch[1], (*taken, (word, said))):
            return False
    return True


def rounds(task):
    """The least number of rounds in which two hands can do the task, None if they cannot."""
    if chosen(task)[0] == "none":
        return None
    number = 0
    while decided(task, 2, number)[0] == "none":
        number += 1
    return number


def check_done(task):
    """Raises NotDone, with a TREE, if two hands that never wait cannot do the task."""
    found = chosen(task)
    if found[0] == "none":
        raise NotDone(found[1])


def plan(task):
    """(number of rounds, the choice of hand 0, that of hand 1, chains from the one to the other)."""
    tabled = made(task)
    words = task.words
    walks = [((one, other), walk_of(tabled, one, other)) for one in words for other in words]
    mine = tuple([(one, walk[0]) for (one, other), walk in walks if one == other])
    its = tuple([(one, walk[-1]) for (one, other), walk in walks if one == other])
    return (tabled.rounds, mine, its, tuple(walks))


def walk_of(tabled, one, other):
    """What a table for two hands says for their views in a row, from hand 0 alone to hand 1 alone."""
    return tuple([tabled.told[view] for view in views_between(tabled.rounds, one, other)])


def views_between(number, one, other):
    """(hand, view) in a row, neighbours being views that come together, from hand 0 alone to hand 1 alone."""
    row = [(0, one), (1, other)]
    for _ in range(number):
        finer = []
        for place, beside in zip(row, row[1:]):
            finer.extend([alone(place), both(beside[0], place, beside), both(place[0], place, beside)])
        row = [*finer, alone(row[-1])]
    return row


def alone(place):
    """(hand, next view) of a hand that sees itself alone."""
    hand, view = place
    return (hand, (view, None) if hand == 0 else (None, view))


def both(hand, place, beside):
    """(hand, next view) of a hand that sees what both wrote."""
    return (hand, (place[1], beside[1]) if place[0] == 0 else (beside[1], place[1]))


def shows_plan(task, value):
    """Whether value is such a result as plan tells."""
    check_done(task)
    if not isinstance(value, tuple) or len(value) != 4:
        return False
    number, mine, its, walks = value
    ground = Ground(task)
    if not is_same(number, rounds(task)) or not is_choice(ground, mine) or not is_choice(ground, its):
        return False
    keys = [(one, other) for one in task.words for other in task.words]
    if not isinstance(walks, tuple) or len(walks) != len(keys):
        return False
    firsts, lasts = {word: said for word, said in mine}, {word: said for word, said in its}
    for (one, other), row in zip(keys, walks):
        if not isinstance(row, tuple) or len(row) != 2 or not is_same(row[0], (one, other)):
            return False
        if not is_walk(task, number, (one, other), row[1]):
            return False
        if row[1][0] != firsts[one] or row[1][-1] != lasts[other]:
            return False
    return True


def is_walk(task, number, words, value):
    """Whether value is a chain of the lot of these words, that so many rounds walk."""
    return is_chain(task, lot_of(words), value) and len(value) - 1 <= STEPS[number]


def made(task):
    """A Tabled for two hands, of the least number of rounds, that is right for the task."""
    check_done(task)
    return decided(task, 2, rounds(task))[1]


def shows_made(task, value):
    """Whether value is such a result as made tells."""
    check_done(task)
    if not isinstance(value, Tabled) or value.many != 2 or value.rounds != rounds(task):
        return False
    return wrong_row(task, value) is None
