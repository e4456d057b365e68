"""A second, plainest telling of points 5, 9 and 10, by which the program's own is judged.

Hands are generators that yield what is due, and are sent what they are told.
"""

from plain import conduct, tree_of


class PlainProgram:
    """Hands by a text, as plain.py tells them."""

    def __init__(self, text):
        self.tree = tree_of(text)
        self.many = int(text.split("\n")[0].split(" ")[1])

    def begin(self, number, word, board=None, note=None):
        return conduct(self.tree, {"mine": word, "me": number, "many": self.many})


class PlainPlayed:
    """Players of hands."""

    def __init__(self, inner, many, turns=None):
        self.inner = inner
        self.many = many
        self.turns = [tuple(range(inner.many))] * many if turns is None else turns

    def begin(self, number, word, board=None, note=None):
        return visiting(self.inner, self.turns[number], word, {"writes": {}, "doors": {}} if board is None else board,
                        (lambda *news: None) if note is None else note)


class Followed:
    """A generator, with what is due ahead."""

    def __init__(self, generator):
        self.generator = generator
        self.due = next(generator)
        self.done = []

    def send(self, told):
        self.done.append(self.due[0])
        try:
            self.due = self.generator.send(told)
        except StopIteration:
            self.due = None


def shown(board, many, **changed):
    """What a player writes: its board, with some writes or doors of it as they are to be."""
    writes = {**board["writes"], **changed.get("writes", {})}
    doors = {**board["doors"], **changed.get("doors", {})}
    return (tuple([writes.get(hand) for hand in range(many)]),
            tuple([(*key, *doors[key]) for key in sorted(doors)]))


def at_level(seen, key, level):
    """(player, VALUE) of all boards that show this level at this door."""
    found = []
    for player, board in enumerate(seen):
        for hand, door, shows, value in (board[1] if board is not None else ()):
            if ((hand, door), shows) == (key, level):
                found.append((player, value))
    return found


def brought(seen, many):
    """What a player that looks brings to a door."""
    best = {}
    for board in seen:
        for hand, write in enumerate(board[0] if board is not None else ()):
            if write is not None and (hand not in best or best[hand][0] < write[0]):
                best[hand] = write
    return tuple([best[hand][1] if hand in best else None for hand in range(many)])


def settling(board, many, key):
    """Standing at level 1, a player looks, and goes to 2 or 0."""
    seen = yield ("look",)
    level = 0 if at_level(seen, key, 2) else 2
    change = {key: (level, board["doors"][key][1])}
    yield ("write", shown(board, many, doors=change))
    board["doors"].update(change)


def visiting(inner, turns, word, board, note):
    """A player, from its beginning, or from when it forgot, on."""
    many = inner.many
    known = {}
    note("begin", known)
    for key in [key for key in board["doors"] if board["doors"][key][0] == 1]:
        yield from settling(board, many, key)
    while True:
        for hand in turns:
            passing = known.get(hand)
            while passing and passing.due[0] == "write" and passing.done.count("write") < board["writes"].get(hand, (0,))[0]:
                passing.send(None)
            if passing and passing.due[0] == "write":
                change = {hand: (passing.done.count("write") + 1, passing.due[1])}
                yield ("write", shown(board, many, writes=change))
                board["writes"].update(change)
                passing.send(None)
                note("went", hand, passing.due)
            elif not passing or passing.due[0] == "look":
                key = (hand, passing.done.count("look") + 1 if passing else 0)
                if key not in board["doors"]:
                    bring = word
                    if key[1] > 0:
                        seen = yield ("look",)
                        bring = brought(seen, many)
                    change = {key: (1, bring)}
                    yield ("write", shown(board, many, doors=change))
                    board["doors"].update(change)
                    yield from settling(board, many, key)
                seen = yield ("look",)
                if not at_level(seen, key, 1):
                    winner, value = at_level(seen, key, 2)[0]
                    note("told", hand, key[1], winner, value)
                    if passing:
                        passing.send(value)
                    else:
                        passing = known[hand] = Followed(inner.begin(hand, value))
                    note("went", hand, passing.due)
            if passing and passing.due[0] == "say":
                yield passing.due
                return


class PlainHouse:
    """Hands by a PlainProgram, or players by a PlainPlayed, and what comes of their steps."""

    def __init__(self, program, words):
        self.program = program
        self.words = words
        self.boards = [None] * program.many
        self.said = [None] * program.many
        self.run = []
        self.news = []
        self.known = [{} for _ in words]
        self.kept = [{"writes": {}, "doors": {}} for _ in words]
        self.hands = [None if word is None else self.followed(number) for number, word in enumerate(words)]

    def followed(self, number):
        def note(what, *news):
            if what == "begin":
                self.known[number] = news[0]
            else:
                self.news.append((len(self.run) - 1, number, what, *news))

        return Followed(self.program.begin(number, self.words[number], self.kept[number], note))

    def next(self, hand):
        return self.hands[hand].due if self.hands[hand] else None

    def step(self, hand, answer=None):
        due = self.next(hand)
        told = tuple(self.boards) if due[0] == "look" else answer
        matter = {"look": (told,), "ask": (due[1:],), "answer": (due[1:] + (told,),)}.get(due[0], due[1:])
        self.run.append((hand, due[0], *matter))
        if due[0] == "write":
            self.boards[hand] = due[1]
        if due[0] == "say":
            self.said[hand] = due[1]
        self.hands[hand].send(told)
        return self.run[-1]

    def forget(self, player):
        self.run.append((player, "forget", None))
        self.hands[player] = self.followed(player)

    def told(self):
        """What point 10 tells of it."""
        hands = self.program.inner.many
        words = [None] * hands
        rows, seen = [], set()
        for place, player, what, *news in self.news:
            if what == "told" and (news[0], news[1]) not in seen:
                hand, door, winner, value = news
                seen.add((hand, door))
                if door == 0:
                    words[hand] = value
                else:
                    rows.append(((hand, "look", value), winner, self.looked(winner, hand, door), place))
            if what == "went" and news[1][0] == "say" and (news[0], "say") not in seen:
                seen.add((news[0], "say"))
                rows.append(((news[0], *news[1]), player, place, place))
        for place, (player, kind, matter) in enumerate(self.run):
            for hand, write in enumerate(matter[0] if kind == "write" else ()):
                if write is not None and (hand, "write", write[0]) not in seen:
                    seen.add((hand, "write", write[0]))
                    rows.append(((hand, "write", write[1]), player, place, place))
        return tuple(words), tuple(sorted(rows, key=lambda row: (row[2], row[0][1] == "say")))

    def looked(self, player, hand, door):
        """The place of the LOOK ahead of the player's first board with this door."""
        own = [place for place, step in enumerate(self.run) if step[0] == player]
        for at, place in enumerate(own):
            step = self.run[place]
            if step[1] == "write" and [row for row in step[2][1] if row[:2] == (hand, door)]:
                assert self.run[own[at - 1]][1] == "look"
                return own[at - 1]

    def begun(self):
        found = [None] * self.program.inner.many
        for place, player, what, *news in self.news:
            if what == "told" and news[1] == 0 and found[news[0]] is None:
                found[news[0]] = (news[2], place)
        return tuple(found)

    def held(self):
        return tuple([tuple([player for player, kept in enumerate(self.kept)
                             if [key for key in kept["doors"] if key[0] == hand and kept["doors"][key][0] == 1]])
                      for hand in range(self.program.inner.many)])

    def behind(self):
        def steps(hand):
            return len(hand.done) + (hand.due[0] == "say") if hand else 0

        return tuple([tuple([steps(known.get(hand)) for hand in range(self.program.inner.many)]) for known in self.known])
