"""A second, plainest telling of point 6, by which the program's own is judged."""

from plain import conduct, tree_of
from plain_players import Followed


def looking(many):
    """One reads board by board until its LOOK stands; the LOOK is what it returns."""
    rounds = []
    while True:
        read = []
        for board in range(many):
            read.append((yield ("read", board)))
        rounds.append(read)
        if len(rounds) < 2:
            continue
        if [shown[0] for shown in rounds[-2]] == [shown[0] for shown in rounds[-1]]:
            return tuple([(shown[0], shown[1]) for shown in rounds[-1]])
        for board in range(many):
            numbers = [read[board][0] for read in rounds]
            if sum([one != other for one, other in zip(numbers, numbers[1:])]) >= 2:
                return rounds[-1][board][2]


def reading(text, many, number, word, note):
    """A hand by a program, whose looks and writes are made of reads."""
    hand = Followed(conduct(tree_of(text), {"mine": word, "me": number, "many": many}))
    while True:
        kind = hand.due[0]
        note("begins")
        if kind == "say":
            yield hand.due
            note("say", hand.due[1])
            return
        look = yield from looking(many)
        if kind == "look":
            note("look", look)
            hand.send(tuple([value for _, value in look]))
        else:
            yield ("write", hand.due[1], look)
            note("write", hand.due[1])
            hand.send(None)


class PlainReads:
    """Hands that read one board at a time, and the spans of what they did."""

    def __init__(self, text, words):
        many = int(text.split("\n")[0].split(" ")[1])
        self.boards = [(0, None, None)] * many
        self.said = [None] * many
        self.run = []
        self.spans = []
        self.begun = [None] * many
        self.hands = []
        for number, word in enumerate(words):
            self.hands.append(Followed(reading(text, many, number, word, self.noting(number))) if word is not None else None)

    def noting(self, number):
        def note(kind, value=None):
            if kind == "begins":
                self.begun[number] = None
            else:
                self.spans.append((number, kind, value, self.begun[number], len(self.run) - 1))

        return note

    def next(self, hand):
        due = self.hands[hand].due if self.hands[hand] else None
        return due[:2] if due else None

    def step(self, hand):
        due = self.hands[hand].due
        told = self.boards[due[1]] if due[0] == "read" else None
        self.run.append((hand, due[0], (due[1], told) if due[0] == "read" else due[1]))
        if self.begun[hand] is None:
            self.begun[hand] = len(self.run) - 1
        if due[0] == "write":
            self.boards[hand] = (self.boards[hand][0] + 1, due[1], due[2])
        if due[0] == "say":
            self.said[hand] = due[1]
        self.hands[hand].send(told)
        return self.run[-1]


def is_plain_run(many, spans, value):
    """Whether a tuple of STEPs is a plain run of these spans, told straight from the document."""
    boards = [None] * many
    left = {hand: [span for span in spans if span[0] == hand] for hand in range(many)}
    sequence = []
    for hand, kind, matter in value:
        if not left.get(hand):
            return False
        span = left[hand].pop(0)
        shown = tuple([pair[1] for pair in span[2]]) if span[1] == "look" else span[2]
        if (kind, matter) != (span[1], shown) or kind == "look" and matter != tuple(boards):
            return False
        if kind == "write":
            boards[hand] = matter
        sequence.append(span)
    if any(left.values()):
        return False
    return not [1 for at, one in enumerate(sequence) for other in sequence[at + 1:] if other[4] < one[3]]
