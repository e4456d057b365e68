"""Doors, at which all players who go on are told one value (section 8)."""

from fewplaymany.errors import BadHand, BadMany, BadValue, CameIn, NotCome
from fewplaymany.kinds import is_below, is_whole
from fewplaymany.rows import exchanged
from fewplaymany.values import is_small_value

MOST_PLAYERS = 5


class Door:
    """A door for so many players.

    `seen` has for each player the levels that it saw, None before it looked. `deeds` has
    the comings and steps, in sequence.
    """

    def __init__(self, many):
        if not is_whole(many) or not 1 <= many <= MOST_PLAYERS:
            raise BadMany(many)
        self.many = many
        self.came = (None,) * many
        self.levels = (None,) * many
        self.heard = (None,) * many
        self.seen = (None,) * many
        self.deeds = ()

    def __eq__(self, other):
        return isinstance(other, Door) and self.many == other.many and self.deeds == other.deeds

    def __len__(self):
        return len([deed for deed in self.deeds if deed[0] == "step"])

    def copy(self):
        """An independent door, equal to it."""
        other = Door(self.many)
        other.came = self.came
        other.levels = self.levels
        other.heard = self.heard
        other.seen = self.seen
        other.deeds = self.deeds
        return other

    def come(self, player, value):
        """Lets a player in, with what it brings."""
        self.check_player(player)
        if not is_small_value(value):
            raise BadValue(value)
        if self.came[player] is not None:
            raise CameIn(player)
        self.came = exchanged(self.came, player, (value,))
        self.deeds = self.deeds + (("come", player, value),)

    def step(self, player):
        """Does the player's next step, and returns it."""
        kind = self.next(player)
        if kind is None:
            raise NotCome(player)
        self.deeds = self.deeds + (("step", player, kind),)
        if kind == "level":
            return self.shows_level(player)
        if kind == "look":
            self.seen = exchanged(self.seen, player, self.levels)
            return ("look", self.levels)
        return self.asks(player)

    def next(self, player):
        """What the player's next step does, None if it did not come."""
        self.check_player(player)
        if self.came[player] is None:
            return None
        if self.levels[player] in (0, 2):
            return "ask"
        if self.levels[player] == 1 and self.seen[player] is None:
            return "look"
        return "level"

    def check_player(self, player):
        """Raises BadHand unless this is the number of a player."""
        if not is_below(player, self.many):
            raise BadHand(player)

    def shows_level(self, player):
        """Lets the player show its next level."""
        level = 1
        if self.seen[player] is not None:
            level = 0 if 2 in self.seen[player] else 2
        self.levels = exchanged(self.levels, player, level)
        return ("level", level)

    def asks(self, player):
        """Tells the player the word, unless somebody stands at level 1."""
        if 1 in self.levels:
            return ("wait",)
        word = self.came[self.levels.index(2)]
        self.heard = exchanged(self.heard, player, word)
        return ("word", word[0])


def held_by(door):
    """The lot of players at level 1."""
    return tuple([player for player, level in enumerate(door.levels) if level == 1])


def may_come(door):
    """The unlike values that can be the next told word, in sequence of players."""
    found = []
    for player in winners(door):
        value = door.came[player][0]
        if value not in found:
            found.append(value)
    return tuple(found)


def winners(door):
    """The players whose value can be the next told word, ascending."""
    came = [player for player, brought in enumerate(door.came) if brought is not None]
    ready = [player for player in held_by(door) if is_ready(door, player)]
    if 2 in door.levels:
        return [min([door.levels.index(2), *ready])]
    if not ready:
        return came
    return [player for player in came if player < ready[0] and door.seen[player] is None] + ready[:1]


def is_ready(door, player):
    """Whether a player at level 1 looked, and saw nobody at 2."""
    return door.seen[player] is not None and 2 not in door.seen[player]
