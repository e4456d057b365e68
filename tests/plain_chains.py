"""A second, plainest telling of point 12, by which the program's own is judged: it tries out everything."""

from itertools import product

from test_tasks import plainly_right


def whole(value):
    return type(value) is int


def right_alone(task, lot):
    """All words right alone for a lot."""
    return [word for word in task.spoken if plainly_right(task, lot, (word,))]


def distances(task, lot, start):
    """The least steps of chains of a lot from a word, by where they lead."""
    found, edge = {start: 0}, [start]
    while edge:
        edge = [other for word in edge for other in right_alone(task, lot)
                if other not in found and plainly_right(task, lot, (word, other)) and not found.update({other: found[word] + 1})]
    return found


def choices(task):
    """All choices."""
    return [dict(zip(task.words, said)) for said in product(*[right_alone(task, (word,)) for word in task.words])]


def lot_of(*words):
    return tuple(sorted(set(words)))


def are_joined(task, choice):
    """Whether a choice is joined."""
    return all(choice[other] in distances(task, (one, other), choice[one])
               for one in task.words for other in task.words if one < other)


def can_be_joined(task):
    """Whether some choice is joined."""
    return any(are_joined(task, choice) for choice in choices(task))


def least_rounds(task):
    """What rounds tells."""
    if not can_be_joined(task):
        return None
    walks = {}
    for one in task.words:
        for other in task.words:
            for word in right_alone(task, (one,)):
                walks[one, other, word] = distances(task, lot_of(one, other), word)
    for number in range(5):
        for mine in choices(task):
            if all(any(all(walks[one, other, mine[one]].get(said, 1000) <= 3 ** number for one in task.words)
                       for said in right_alone(task, (other,))) for other in task.words):
                return number
    raise AssertionError(task.text)


def is_tree(task, value, taken):
    """Whether value is a TREE, taken being what was chosen on the way to it."""
    if type(value) is not tuple or len(value) != 3:
        return False
    if type(value[0]) is str and value[0] == "pair":
        _, one, other = value
        if not whole(one) or not whole(other) or one not in taken or other not in taken or not one < other:
            return False
        return taken[other] not in distances(task, (one, other), taken[one])
    if not type(value[0]) is str or value[0] != "word" or not whole(value[1]) or value[1] not in task.words or value[1] in taken:
        return False
    if type(value[2]) is not tuple or any(type(branch) is not tuple or len(branch) != 2 for branch in value[2]):
        return False
    if not all(whole(branch[0]) for branch in value[2]):
        return False
    if [branch[0] for branch in value[2]] != right_alone(task, (value[1],)):
        return False
    return all(is_tree(task, branch[1], {**taken, value[1]: branch[0]}) for branch in value[2])


def is_choice(task, value):
    """Whether value tells a choice."""
    if type(value) is not tuple or any(type(pair) is not tuple or len(pair) != 2 for pair in value):
        return False
    if not all(whole(word) and whole(said) for word, said in value):
        return False
    return tuple(word for word, _ in value) == task.words and all(said in right_alone(task, (word,)) for word, said in value)


def is_chosen(task, value):
    """What shows_chosen tells."""
    if type(value) is not tuple or len(value) != 2 or type(value[0]) is not str:
        return False
    if value[0] == "words":
        return is_choice(task, value[1]) and are_joined(task, dict(value[1]))
    return value[0] == "none" and is_tree(task, value[1], {})


def is_chain(task, lot, value):
    """Whether value is a chain of a lot."""
    if type(value) is not tuple or not value or not all(whole(word) for word in value):
        return False
    return all(plainly_right(task, lot, (word,)) for word in value) and all(
        plainly_right(task, lot, pair) for pair in zip(value, value[1:]))


def is_plan(task, value, number):
    """What shows_plan tells, rounds telling this number."""
    if type(value) is not tuple or len(value) != 4 or not whole(value[0]) or value[0] != number:
        return False
    if not is_choice(task, value[1]) or not is_choice(task, value[2]) or type(value[3]) is not tuple:
        return False
    if any(type(row) is not tuple or len(row) != 2 or type(row[0]) is not tuple or len(row[0]) != 2 for row in value[3]):
        return False
    if not all(whole(one) and whole(other) for (one, other), _ in value[3]):
        return False
    if [row[0] for row in value[3]] != [(one, other) for one in task.words for other in task.words]:
        return False
    mine, its = dict(value[1]), dict(value[2])
    return all(is_chain(task, lot_of(one, other), chain) and len(chain) <= 3 ** number + 1
               and (chain[0], chain[-1]) == (mine[one], its[other]) for (one, other), chain in value[3])


def some_tree(any_of, task, taken):
    """A TREE of a task that cannot be done, which takes words in any sequence, and goes on behind pairs at times."""
    pairs = [(one, other) for one in taken for other in taken
             if one < other and taken[other] not in distances(task, (one, other), taken[one])]
    left = [word for word in task.words if word not in taken]
    if pairs and (not left or any_of.random() < 0.8):
        return ("pair", *any_of.choice(pairs))
    word = any_of.choice(left)
    return ("word", word, tuple([(said, some_tree(any_of, task, {**taken, word: said})) for said in right_alone(task, (word,))]))
