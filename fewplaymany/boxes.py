"""Programs whose boxes other programs fill (section 15)."""

from fewplaymany.errors import HasBoxes, NoBox, NoProgram, NotFilled, OtherHands, Twice
from fewplaymany.filled_hands import FilledHand
from fewplaymany.houses import House
from fewplaymany.kinds import is_below
from fewplaymany.programs import AnyProgram
from fewplaymany.values import is_same


class Filled(AnyProgram):
    """A program that does another one where it would ask one of its boxes."""

    def __init__(self, program, box, other):
        if not isinstance(program, AnyProgram):
            raise NoProgram(program)
        if not is_below(box, program.boxes):
            raise NoBox(box)
        if not isinstance(other, AnyProgram):
            raise NoProgram(other)
        if other.boxes > 0:
            raise HasBoxes(other)
        if other.many != program.many:
            raise OtherHands(other)
        if program.most_asks(box) > 1:
            raise Twice(box)
        self.program = program
        self.box = box
        self.other = other
        self.many = program.many
        self.boxes = program.boxes - 1

    def __eq__(self, other):
        if not isinstance(other, Filled):
            return False
        return self.program == other.program and self.box == other.box and self.other == other.other

    def enter(self, number, word):
        """The FilledHand of this number, with this word, as it stands at first."""
        hand = FilledHand(self, number, self.program.enter(number, word))
        hand.goes_on()
        return hand

    def most_asks(self, box):
        """The greatest number of times that a hand asks a box along any way through the lines of the program."""
        return self.program.most_asks(box if box < self.box else box + 1)


def outer(house):
    """(run of the program that asks, with the number of the STEP with which each of its STEPs came)."""
    if not isinstance(house, House) or not isinstance(house.program, Filled):
        raise NotFilled(house)
    rows = []
    for number, hand in enumerate(house.hands):
        places = [place for place, step in enumerate(house.run) if step[0] == number]
        rows.extend([] if hand is None else rows_of(hand, places))
    rows = sorted(rows, key=place_of)
    return (tuple([step for place, step in rows]), tuple([place for place, step in rows]))


def rows_of(hand, places):
    """(place, STEP) of all that a FilledHand did by the program that asks, its steps having these places."""
    rows = []
    had = 0
    for place, count in zip(places, hand.told):
        rows.extend([(place, step) for step in hand.outer.run[had:count]])
        had = count
    return rows


def place_of(row):
    """The place of (place, STEP)."""
    return row[0]


def shows_outer(house, value):
    """Whether value is what outer tells."""
    return is_same(value, outer(house))
