"""What a hand does by a program whose box another program fills (section 15)."""

from fewplaymany.rows import exchanged
from fewplaymany.steps import step_of


class FilledHand:
    """A hand that works at another program where it asks a box.

    `due` and `run` are as of a Hand (hands.py). `outer` is the hand by the program that
    asks, `inner` the hand by the other one, None as long as it is not at work at it. `board` is
    the pair that its board shows. `told` has for each of its steps how many STEPs of outer
    have come by it.
    """

    def __init__(self, filled, number, outer):
        self.filled = filled
        self.number = number
        self.outer = outer
        self.inner = None
        self.board = (None, None)
        self.run = []
        self.told = []
        self.due = None

    def copy(self):
        """A FilledHand that stands as this one does, by itself."""
        other = FilledHand(self.filled, self.number, self.outer.copy())
        other.inner = None if self.inner is None else self.inner.copy()
        other.board = self.board
        other.run = list(self.run)
        other.told = list(self.told)
        other.due = self.due
        return other

    def goes_on(self):
        """Does what is done at once, and sees to what is due."""
        if self.is_at_box():
            self.inner = self.filled.other.enter(self.number, self.outer.due[2])
            self.outer.step()
        # No hand asks this box twice, so the other program is not begun again.
        if self.inner is not None and self.inner.due[0] == "say":
            self.outer.step(self.inner.due[1])
            self.inner = None
        self.due = self.due_now()

    def is_at_box(self):
        """Whether its next by the program is to ask the box that is filled."""
        due = self.outer.due
        return due is not None and due[0] == "ask" and due[1] == self.filled.box

    def due_now(self):
        """The step that is due, by whichever program it is at work at."""
        due = self.outer.due if self.inner is None else self.inner.due
        if due is None or due[0] in ("look", "say"):
            return due
        if due[0] == "write":
            return ("write", exchanged(self.board, self.part(), due[1]))
        return (due[0], due[1] if due[1] < self.filled.box else due[1] - 1, *due[2:])

    def part(self):
        """Which part of the boards belongs to the program that it is at work at."""
        return 0 if self.inner is None else 1

    def step(self, told=None):
        """Does the step that is due, and returns the STEP; told is what is seen or answered."""
        due = self.due
        step = step_of(self.number, due, told)
        self.run.append(step)
        if due[0] == "write":
            self.board = due[1]
        if due[0] == "look":
            at = self.part()
            told = tuple([None if board is None else board[at] for board in told])
        self.passes_on(told)
        self.goes_on()
        return step

    def passes_on(self, told):
        """Lets the hand by the program that it is at work at do its step."""
        if self.inner is None:
            self.outer.step(told)
        else:
            self.inner.step(told)
        # What is done at once behind this step comes by the next one.
        self.told.append(len(self.outer.run))
