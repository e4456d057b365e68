"""Programs that tell hands what to do (section 4)."""

from fewplaymany.blocks import most_asks, most_steps, Reader
from fewplaymany.errors import BadProgram, Wide
from fewplaymany.hands import Hand
from fewplaymany.kinds import number_in

MOST_LINES = 61
MOST_STEPS = 200


class AnyProgram:
    """What all PROGRAMs are, whatever tells their hands what to do.

    Each has `many`, `boxes`, and `enter(number, word)`: the hand of this number with this
    word, as it stands at first. Such a hand has `due`, `run`, `step` and `copy` as Hand
    (hands.py) has them. Those that ask boxes have `most_asks(box)`, how many times a hand
    can ask a box.
    """


class Program(AnyProgram):
    """A program by its text, with what the text tells of it."""

    def __init__(self, text):
        if not isinstance(text, str):
            raise BadProgram(0)
        lines = text.split("\n")
        many = many_in(lines[0])
        if many is None:
            raise BadProgram(1)
        reader = Reader()
        for number, line in enumerate(lines[1:], 2):
            if number > MOST_LINES or not reader.takes(line):
                raise BadProgram(number)
        body = reader.whole()
        if body is None:
            raise BadProgram(len(lines) + 1)
        steps = most_steps(body)
        if steps > MOST_STEPS:
            raise Wide(MOST_STEPS)
        self.text = text
        self.many = many
        self.boxes = reader.boxes
        self.steps = steps
        self.waits = reader.waits
        self.body = body

    def __eq__(self, other):
        return isinstance(other, Program) and self.text == other.text

    def enter(self, number, word):
        """The Hand of this number, with this word, as it stands at first."""
        hand = Hand(self.body, self.many, number, word)
        hand.goes_on()
        return hand

    def most_asks(self, box):
        """The greatest number of times that a hand asks a box along any way through the lines."""
        return most_asks(self.body, box)


def many_in(line):
    """How many hands the first line of a program tells, None if it cannot stand there."""
    words = line.split(" ")
    if len(words) != 2 or words[0] != "hands":
        return None
    return number_in(words[1], 1, 6)
