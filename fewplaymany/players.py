"""Programs that few or many players play (section 9)."""

from fewplaymany.errors import BadHand, BadMany, BadTurns, Done, HasBoxes, NoProgram, NotPlayed
from fewplaymany.houses import House
from fewplaymany.kinds import is_below, is_whole
from fewplaymany.programs import AnyProgram
from fewplaymany.visits import Player

MOST_PLAYERS = 4
MOST_TURNS = 12


class Played(AnyProgram):
    """A program as its players play it, by their turns."""

    def __init__(self, program, many, *, turns=None):
        if not isinstance(program, AnyProgram):
            raise NoProgram(program)
        if program.boxes > 0:
            raise HasBoxes(program)
        if not is_whole(many) or not 1 <= many <= MOST_PLAYERS:
            raise BadMany(many)
        if turns is not None and not are_turns(turns, many, program.many):
            raise BadTurns(turns)
        self.program = program
        self.many = many
        self.boxes = 0
        self.turns = (tuple(range(program.many)),) * many if turns is None else turns

    def __eq__(self, other):
        if not isinstance(other, Played):
            return False
        return self.program == other.program and self.many == other.many and self.turns == other.turns

    def enter(self, number, word):
        """The Player of this number, with this word, as it stands at first."""
        return Player(self.program, self.turns[number], number, word)


def are_turns(value, many, hands):
    """Whether value has turns for each of so many players, among so many hands."""
    if not isinstance(value, tuple) or len(value) != many:
        return False
    return all([is_row_of_turns(row, hands) for row in value])


def is_row_of_turns(value, hands):
    """Whether value is a tuple of turns in which each of so many hands stands."""
    if not isinstance(value, tuple) or not 1 <= len(value) <= MOST_TURNS:
        return False
    if not all([is_below(thing, hands) for thing in value]):
        return False
    return all([hand in value for hand in range(hands)])


def is_played(value):
    """Whether value is a House of a Played program."""
    return isinstance(value, House) and isinstance(value.program, Played)


def forget(house, player):
    """Lets a player lose all that it keeps but its board and its word."""
    if not is_played(house):
        raise NotPlayed(house)
    if house.next(player) is None:
        raise Done(player)
    house.notes(house.hands[player].forgets())
