"""A second, plainest telling of points 13 and 15, by which the program's own is judged.

Hands are generators that yield what is due, and are sent what they are told.
"""

from plain_players import Followed


def tabling(rounds, table, number, word):
    """A hand by a table of views."""
    views = [word]
    for _ in range(rounds):
        yield ("write", tuple(views))
        seen = yield ("look",)
        views.append(tuple([board[len(views) - 1] if board is not None and len(board) >= len(views) else None for board in seen]))
    yield ("say", {(hand, view): said for hand, view, said in table}.get((number, views[-1]), 0))


class PlainTabled:
    """Hands by a table."""

    def __init__(self, many, rounds, table):
        self.many = many
        self.rounds = rounds
        self.table = table

    def begin(self, number, word, board=None, note=None):
        return tabling(self.rounds, self.table, number, word)


def shared(inner, board, part, box=None):
    """A hand at work at one part of its board; it ends as it is to say, or to ask the box."""
    due = inner.due
    while due is not None and due[0] != "say" and due[:2] != ("ask", box):
        told = None
        if due[0] == "write":
            whole = (due[1], board[1]) if part == 0 else (board[0], due[1])
            yield ("write", whole)
            board[part] = due[1]
        elif due[0] == "look":
            seen = yield due
            told = tuple([None if pair is None else pair[part] for pair in seen])
        else:
            told = yield (due[0], due[1] - (due[1] > box), *due[2:])
        inner.send(told)
        due = inner.due


def filling(program, box, other, number, word, events):
    """A hand by a program, and by another one where it would ask the box; events tell what it has done by the program."""
    board = [None, None]
    hand = Followed(program.begin(number, word))
    yield from noting(shared(hand, board, 0, box), events, True)
    if hand.due[0] == "ask":
        asked = hand.due[2]
        hand.send(None)
        inner = Followed(other.begin(number, asked))
        events.append(("ask", asked))
        yield from noting(shared(inner, board, 1), events, False)
        events.append(("answer", inner.due[1]))
        hand.send(inner.due[1])
        yield from noting(shared(hand, board, 0, box), events, True)
    yield hand.due
    events.append(("own",))


def noting(generator, events, own):
    """Passes on what is due and told; behind each step it is noted whether it was by the program."""
    told = None
    while True:
        try:
            due = generator.send(told)
        except StopIteration:
            return
        told = yield due
        events.append(("own",) if own else ("inner",))


class PlainFilled:
    """Hands by a program whose box is filled; `events` has for each hand that begins what came of it."""

    def __init__(self, program, box, other):
        self.program = program
        self.box = box
        self.other = other
        self.many = program.many
        self.events = {}

    def begin(self, number, word, board=None, note=None):
        self.events[number] = []
        return filling(self.program, self.box, self.other, number, word, self.events[number])


def plain_outer(house):
    """What outer tells of a PlainHouse of a PlainFilled."""
    box = house.program.box
    rows = []
    for hand, events in house.program.events.items():
        places = [place for place, step in enumerate(house.run) if step[0] == hand]
        at = 0
        for event in events:
            # What is not a step comes with the next one, if this is done.
            if at == len(places):
                break
            place = places[at]
            if event[0] in ("ask", "answer"):
                rows.append((place, (hand, event[0], (box, event[1]))))
                continue
            at += 1
            if event[0] == "own":
                rows.append((place, plain_step(house.run[place], box)))
    rows.sort(key=lambda row: row[0])
    return tuple([step for _, step in rows]), tuple([place for place, _ in rows])


def plain_step(step, box):
    """The STEP of the program that asks, of a STEP that a hand did by it."""
    hand, kind, matter = step
    if kind == "write":
        return (hand, kind, matter[0])
    if kind == "look":
        return (hand, kind, tuple([None if pair is None else pair[0] for pair in matter]))
    if kind in ("ask", "answer"):
        return (hand, kind, (matter[0] + (matter[0] >= box), matter[1]))
    return step
