"""Houses, where the hands of a PROGRAM stand (section 5)."""

from fewplaymany.errors import BadAnswer, BadBoxes, BadHand, BadWeaving, BadWords, Done, HasBoxes, NoProgram, NotAsking
from fewplaymany.kinds import are_words, is_below, is_weaving, is_whole
from fewplaymany.lots import lot_of
from fewplaymany.programs import AnyProgram
from fewplaymany.rows import exchanged
from fewplaymany.tasks import Task


class House:
    """The hands of a PROGRAM, each with its word, its board, and as far as it has come.

    `hands` has what PROGRAM.enter gave for each hand, None for one that never comes.
    """

    def __init__(self, program, words, boxes=()):
        if not isinstance(program, AnyProgram):
            raise NoProgram(program)
        if not are_words(words, program.many):
            raise BadWords(words)
        if not are_tasks(boxes, program.boxes):
            raise BadBoxes(boxes)
        self.program = program
        self.words = words
        self.boxes = boxes
        self.boards = (None,) * program.many
        self.said = (None,) * program.many
        self.run = ()
        self.hands = [None if word is None else program.enter(hand, word) for hand, word in enumerate(words)]

    def __eq__(self, other):
        if not isinstance(other, House):
            return False
        if self.program != other.program or self.words != other.words:
            return False
        return self.boxes == other.boxes and self.run == other.run

    def __len__(self):
        return len(self.run)

    def copy(self):
        """A House that is equal and stands by itself."""
        # Its hands are copied, so none has to come anew.
        other = House(self.program, (None,) * len(self.words), self.boxes)
        other.words = self.words
        other.boards = self.boards
        other.said = self.said
        other.run = self.run
        other.hands = [None if hand is None else hand.copy() for hand in self.hands]
        return other

    def next(self, hand):
        """What the hand does if it goes on, None if nothing."""
        if not is_below(hand, self.program.many):
            raise BadHand(hand)
        if self.hands[hand] is None:
            return None
        return self.hands[hand].due

    def answers(self, hand):
        """The lot of the words that the box which the hand asked may answer now."""
        due = self.next(hand)
        if due is None or due[0] != "answer":
            raise NotAsking(hand)
        task = self.boxes[due[1]]
        asked = [step for step in self.run if step[1] == "ask" and step[2][0] == due[1]]
        own = [step[2][1] for step in asked if step[0] == hand]
        if own[-1] not in task.words:
            return ()
        brought = lot_of([step[2][1] for step in asked if step[2][1] in task.words])
        answered = [step[2][1] for step in self.run if step[1] == "answer" and step[2][0] == due[1]]
        return tuple([word for word in task.spoken if task.right(brought, lot_of([*answered, word]))])

    def step(self, hand, answer=None):
        """Does the hand's next, and returns the STEP."""
        due = self.next(hand)
        if due is None:
            raise Done(hand)
        if due[0] == "answer":
            if not is_whole(answer) or answer not in self.answers(hand):
                raise BadAnswer(answer)
        elif answer is not None:
            raise BadAnswer(answer)
        step = self.hands[hand].step(self.boards if due[0] == "look" else answer)
        self.notes(step)
        return step

    def weave(self, weaving):
        """Does the next of each hand in sequence, and returns the STEPs done."""
        if not is_weaving(weaving, self.program.many):
            raise BadWeaving(weaving)
        if self.program.boxes > 0:
            raise HasBoxes(self.program)
        return tuple([self.step(hand) for hand in weaving if self.next(hand) is not None])

    def notes(self, step):
        """Takes a STEP that its hand has done into run, boards and said."""
        hand, kind, matter = step
        self.run = self.run + (step,)
        if kind == "write":
            self.boards = exchanged(self.boards, hand, matter)
        elif kind == "say":
            self.said = exchanged(self.said, hand, matter)


def are_tasks(value, count):
    """Whether value is a tuple of so many Tasks."""
    if not isinstance(value, tuple) or len(value) != count:
        return False
    return all([isinstance(thing, Task) for thing in value])
