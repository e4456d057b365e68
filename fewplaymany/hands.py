"""What a hand does by a Program (section 4)."""

from fewplaymany.kinds import is_word
from fewplaymany.steps import step_of
from fewplaymany.terms import narrowed, worth


class Hand:
    """A hand on its way through the block of a program.

    `due` is its next step: ("write", VALUE), ("look",), ("say", WORD),
    ("ask", box, WORD) or ("answer", box); None when it has said. `run` has the STEPs
    that it did, and `said` is the WORD that it said, None before. `in_vain` tells whether
    the last one was a look of a wait behind which what it waits for did not hold. `place`
    has each block in which it is, the outermost one first: (block, its next item, how many
    times it is still done).
    """

    def __init__(self, body, many, number, word):
        self.body = body
        self.many = many
        self.number = number
        self.word = word
        self.known = {"mine": word, "me": number, "many": many}
        self.place = ((body, 0, 1),)
        self.item = None
        self.due = None
        self.run = []
        self.said = None
        self.in_vain = False

    def copy(self):
        """A Hand that stands as this one does, by itself."""
        other = Hand(self.body, self.many, self.number, self.word)
        other.known = dict(self.known)
        other.place = self.place
        other.item = self.item
        other.due = self.due
        other.run = list(self.run)
        other.said = self.said
        other.in_vain = self.in_vain
        return other

    def step(self, told=None):
        """Does the step that is due, and returns the STEP; told is what is seen or answered."""
        kind = self.due[0]
        step = step_of(self.number, self.due, told)
        self.run.append(step)
        self.in_vain = kind in ("look", "answer") and not self.learns(told)
        if kind == "say":
            self.said = self.due[1]
            self.due = None
        elif kind == "ask":
            self.due = ("answer", self.due[1])
        elif not self.in_vain:
            self.goes_on()
        return step

    def learns(self, told):
        """Keeps what is seen or answered, and tells whether that is all it waits for."""
        self.known[self.item[1]] = narrowed(told)
        return self.item[0] != "wait" or worth(self.item[2], self.known)

    def goes_on(self):
        """Does what is done at once, up to the next step."""
        self.item = self.next_item()
        while self.item[0] in ("keep", "if", "again"):
            self.does_at_once()
            self.item = self.next_item()
        self.due = self.due_of_item()

    def next_item(self):
        """The next item on its way, which is passed; blocks that are through are left."""
        outer = list(self.place)
        block, at, times = outer.pop()
        while at == len(block):
            if times > 1:
                at, times = 0, times - 1
            else:
                block, at, times = outer.pop()
        self.place = (*outer, (block, at + 1, times))
        return block[at]

    def does_at_once(self):
        """Does an item that is no step."""
        item = self.item
        if item[0] == "keep":
            self.known[item[1]] = narrowed(worth(item[2], self.known))
        elif item[0] == "if":
            chosen = item[2] if worth(item[1], self.known) else item[3]
            self.place = (*self.place, (chosen, 0, 1))
        else:
            self.place = (*self.place, (item[2], 0, item[1]))

    def due_of_item(self):
        """The step that its item asks for first."""
        item = self.item
        if item[0] == "write":
            return ("write", narrowed(worth(item[1], self.known)))
        if item[0] == "say":
            return ("say", word_of(worth(item[1], self.known)))
        if item[0] == "ask":
            return ("ask", item[3], word_of(worth(item[2], self.known)))
        return ("look",)


def word_of(value):
    """What is said or brought for a VALUE: itself if it is a WORD, otherwise 0."""
    return value if is_word(value) else 0
