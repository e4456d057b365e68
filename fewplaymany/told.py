"""What players have done, told as a run of the program that they play (section 10)."""

from fewplaymany.errors import NotPlayed
from fewplaymany.houses import House
from fewplaymany.players import is_played, Played
from fewplaymany.steps import are_steps, MOST_HANDS
from fewplaymany.values import is_same


def told(house):
    """(words, paper): the run of the written program, and who settled each step, and where."""
    check_played(house)
    news = first_news(house)
    hands = range(house.program.program.many)
    words = tuple([None if row is None else row[2][1] for row in [news.get(("told", hand, 0)) for hand in hands]])
    rows = [paper_row(news, key) for key in news if is_of_step(key)]
    return (words, tuple(sorted(rows, key=sequence_of)))


def shows_told(house, value):
    """Whether value is what told tells."""
    return is_same(value, told(house))


def begun(house):
    """For each hand (whose word was told at its door 0, where first), None if nobody was told there."""
    check_played(house)
    news = first_news(house)
    rows = [news.get(("told", hand, 0)) for hand in range(house.program.program.many)]
    return tuple([None if row is None else (row[2][0], row[0]) for row in rows])


def held(house):
    """For each hand the lot of the players who show level 1 at a door of it."""
    check_played(house)
    return tuple([holders(house.boards, hand) for hand in range(house.program.program.many)])


def behind(house):
    """For each player, of each hand, how many of its steps the player knows."""
    check_played(house)
    none = (0,) * house.program.program.many
    return tuple([none if player is None else player.knows() for player in house.hands])


def later(one, other):
    """Whether two values stand to one another as told STEPs at a moment and at a later one do."""
    if not are_told_steps(one) or not are_told_steps(other):
        return False
    left = [len([step for step in one if step[0] == hand]) for hand in range(MOST_HANDS)]
    firsts = []
    for step in other:
        if left[step[0]] > 0:
            left[step[0]] -= 1
            firsts.append(step)
        elif step[1] != "look" and any(left):
            return False
    return tuple(firsts) == one


def told_through(house):
    """What is told of a House, and of the Houses of played programs that stand behind it."""
    found = [told(house)]
    inner = house
    while isinstance(inner.program.program, Played):
        words, paper = found[-1]
        inner = House(inner.program.program, words)
        for row in paper:
            inner.step(row[0][0])
        found.append(told(inner))
    return tuple(found)


def check_played(house):
    """Raises NotPlayed unless house is a House of a Played program."""
    if not is_played(house):
        raise NotPlayed(house)


def are_told_steps(value):
    """Whether value is a tuple of STEPs, each a write, a look or a say."""
    return are_steps(value) and all([step[1] in ("write", "look", "say") for step in value])


def holders(boards, hand):
    """The lot of the players whose boards show level 1 at a door of a hand."""
    shown = [(player, row) for player, board in enumerate(boards) if board is not None for row in board[1]]
    return tuple([player for player, row in shown if row[0] == hand and row[2] == 1])


def all_news(house):
    """All that came of the steps of players: (place, player, what, hand, number, matter), by places.

    What they are is told by Player (visits.py).
    """
    places = [[] for _ in house.hands]
    for place, step in enumerate(house.run):
        places[step[0]].append(place)
    news = []
    for player, hand in enumerate(house.hands):
        log = [] if hand is None else hand.log
        news.extend([(places[player][row[0]], player) + row[1:] for row in log])
    return sorted(news, key=place_of)


def place_of(news):
    """The place of a row of news."""
    return news[0]


def first_news(house):
    """(place, player, matter) by which each step of each hand was first known, by (what, hand, number).

    Looks for a door are told of each player, by ("look", hand, door, player).
    """
    firsts = {}
    for place, player, what, hand, number, matter in all_news(house):
        key = (what, hand, number, player) if what == "look" else (what, hand, number)
        if key not in firsts:
            firsts[key] = (place, player, matter)
    return firsts


def is_of_step(key):
    """Whether news of this key are of a step of a hand."""
    return key[0] in ("write", "say") or (key[0] == "told" and key[2] > 0)


def paper_row(news, key):
    """(STEP, player, place, known) of a step of a hand, by its key among the first news."""
    what, hand, number = key
    place, player, matter = news[key]
    if what != "told":
        return ((hand, what, matter), player, place, place)
    winner, value = matter
    return ((hand, "look", value), winner, news[("look", hand, number, winner)][0], place)


def sequence_of(row):
    """What rows of a paper stand by: the place, a say behind a write."""
    return (row[2], 1 if row[0][1] == "say" else 0)
