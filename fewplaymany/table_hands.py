"""What a hand does by a table of views (section 13)."""

from fewplaymany.steps import step_of


class TableHand:
    """A hand that writes all its views so far, looks, and so on, and says what the table tells.

    `due`, `run` and `in_vain` are as of a Hand (hands.py). `views` has its views so far,
    the first one first; `told` has the WORD for each (hand, last view) of the table.
    """

    def __init__(self, told, rounds, number, word):
        self.told = told
        self.rounds = rounds
        self.number = number
        self.word = word
        self.views = (word,)
        self.run = []
        self.in_vain = False
        self.due = None
        self.goes_on()

    def copy(self):
        """A TableHand that stands as this one does, by itself."""
        other = TableHand(self.told, self.rounds, self.number, self.word)
        other.views = self.views
        other.run = list(self.run)
        other.due = self.due
        return other

    def step(self, told=None):
        """Does the step that is due, and returns the STEP; told is what is seen."""
        kind = self.due[0]
        step = step_of(self.number, self.due, told)
        self.run.append(step)
        if kind == "write":
            self.due = ("look",)
        elif kind == "look":
            self.views = (*self.views, self.view_from(told))
            self.goes_on()
        else:
            self.due = None
        return step

    def goes_on(self):
        """Sees to what is due behind a view."""
        if len(self.views) <= self.rounds:
            self.due = ("write", self.views)
        else:
            self.due = ("say", self.told.get((self.number, self.views[-1]), 0))

    def view_from(self, seen):
        """The next view, from what all boards show."""
        at = len(self.views) - 1
        return tuple([None if board is None or len(board) <= at else board[at] for board in seen])
