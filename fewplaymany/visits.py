"""What a player does: it visits the hands of the program that it plays (section 9)."""

from fewplaymany.boards import empty_board, newest, row_at_door, row_at_level_one, rows_at_level, with_door, with_write
from fewplaymany.boards import written

# What a visit to a hand, and going on behind a forget, have still to do.
WRITE = ("write",)
ASK = ("ask",)
COME = ("come", "see", "settle", "ask")
LOOK_AND_COME = ("look", "come", "see", "settle", "ask")
MEND = ("see", "settle")
SAY = ("say",)


class Player:
    """A player on its way through the turns by which it visits hands.

    `due` and `run` are as of a Hand (hands.py). `hands` has each hand as far as
    the player knows it, None ahead of its door 0. `plan` tells what this visit has still to do:
    "look" for what is brought to `door`, "come" there with level 1, "see" who is at 2,
    "settle" for level 2 or 0, "ask" there; "write" for the hand; or "say".

    `log` keeps what came of its steps, also what it forgot since. Each row is
    (at, what, hand, number, matter), at being the number of the step in its run: "write"
    with the number of the write, and its VALUE; "look", of the step by which it made what
    it brought to a door, with this door, and the VALUE; "told" with a door, and (player
    whose value it is, VALUE); "say" with 0, and the WORD.
    """

    def __init__(self, program, turns, number, word):
        self.program = program
        self.turns = turns
        self.number = number
        self.word = word
        self.board = empty_board(program.many)
        self.run = []
        self.log = []
        self.looked = None
        self.level = None
        self.begins()

    def copy(self):
        """A Player that stands as this one does, by itself."""
        other = Player(self.program, self.turns, self.number, self.word)
        other.board = self.board
        other.run = list(self.run)
        other.log = list(self.log)
        other.looked = self.looked
        other.level = self.level
        other.hands = [None if hand is None else hand.copy() for hand in self.hands]
        other.turn = self.turn
        other.plan = self.plan
        other.door = self.door
        other.brought = self.brought
        other.due = self.due
        return other

    def begins(self):
        """Begins with nothing but its board and its word, at level 1 first if it stands there."""
        row = row_at_level_one(self.board)
        self.hands = [None] * self.program.many
        self.turn = -1
        self.plan = () if row is None else MEND
        self.door = None if row is None else row[:2]
        self.brought = None if row is None else row[3]
        self.goes_on()

    def forgets(self):
        """Loses all that it keeps but its board and its word, and returns the STEP."""
        step = (self.number, "forget", None)
        self.run.append(step)
        self.begins()
        return step

    def knows(self):
        """For each hand how many of its steps the player knows."""
        return tuple([steps_known(hand) for hand in self.hands])

    def goes_on(self):
        """Sees to what is due, as the next visit begins if this one has ended."""
        if not self.plan:
            self.turn = (self.turn + 1) % len(self.turns)
            self.visits(self.turns[self.turn])
        self.due = self.due_by(self.plan[0])

    def visits(self, hand):
        """Begins the visit to a hand."""
        self.passes_over(hand)
        known = self.hands[hand]
        if known is not None and known.due[0] != "look":
            self.plan = SAY if known.due[0] == "say" else WRITE
            return
        door = 0 if known is None else count_of(known, "look") + 1
        self.door = (hand, door)
        if row_at_door(self.board, hand, door) is not None:
            self.plan = ASK
            return
        self.plan = COME if door == 0 else LOOK_AND_COME
        self.brought = self.word

    def passes_over(self, hand):
        """Lets the hand go on over all writes that are no newer than what the board shows."""
        known = self.hands[hand]
        if known is None:
            return
        number = count_of(known, "write") + 1
        while known.due[0] == "write" and number <= written(self.board, hand):
            known.step()
            number += 1

    def due_by(self, what):
        """The step by which the player does this part of its plan."""
        if what in ("look", "see", "ask"):
            return ("look",)
        if what in ("come", "settle"):
            hand, door = self.door
            level = 1 if what == "come" else self.level
            return ("write", with_door(self.board, hand, door, level, self.brought))
        hand = self.turns[self.turn]
        known = self.hands[hand]
        if what == "say":
            return known.due
        return ("write", with_write(self.board, hand, written(self.board, hand) + 1, known.due[1]))

    def step(self, told=None):
        """Does the step that is due, and returns the STEP; told is what is seen."""
        kind = self.due[0]
        step = (self.number, kind, told if kind == "look" else self.due[1])
        self.run.append(step)
        what = self.plan[0]
        self.plan = self.plan[1:]
        if kind == "say":
            self.due = None
            return step
        if kind == "write":
            self.board = self.due[1]
            self.behind_write(what)
        else:
            self.behind_look(what, told)
        self.goes_on()
        return step

    def behind_write(self, what):
        """Takes to heart what it has written."""
        if what == "come" and self.door[1] > 0:
            hand, door = self.door
            self.log.append((self.looked, "look", hand, door, self.brought))
        elif what == "write":
            hand = self.turns[self.turn]
            number, value = self.board[0][hand]
            self.log.append((len(self.run) - 1, "write", hand, number, value))
            self.hands[hand].step()
            self.heeds(hand)

    def behind_look(self, what, seen):
        """Takes to heart what it has seen."""
        if what == "look":
            self.brought = newest(seen, self.program.many)
            self.looked = len(self.run) - 1
        elif what == "see":
            self.level = 0 if self.rows_seen(seen, 2) else 2
        elif not self.rows_seen(seen, 1):
            self.is_told(self.rows_seen(seen, 2)[0])

    def rows_seen(self, seen, level):
        """(player, VALUE) for all whose boards, as seen, show this level at its door."""
        hand, door = self.door
        return rows_at_level(seen, hand, door, level)

    def is_told(self, winner):
        """Goes on with the hand of its door, by (player, VALUE) of whoever won there."""
        hand, door = self.door
        self.log.append((len(self.run) - 1, "told", hand, door, winner))
        if door == 0:
            self.hands[hand] = self.program.enter(hand, winner[1])
        else:
            self.hands[hand].step(winner[1])
        self.heeds(hand)

    def heeds(self, hand):
        """Plans to say if the hand, which went on, is to say."""
        due = self.hands[hand].due
        if due[0] == "say":
            self.plan = SAY
            self.log.append((len(self.run) - 1, "say", hand, 0, due[1]))


def steps_known(hand):
    """How many steps of a hand are known: those that it did, and its say if this is next."""
    if hand is None:
        return 0
    return len(hand.run) + 1 if hand.due[0] == "say" else len(hand.run)


def count_of(hand, kind):
    """How many STEPs of this kind a hand did."""
    return len([step for step in hand.run if step[1] == kind])
