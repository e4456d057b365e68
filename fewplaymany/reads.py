"""Hands that read one board at a time (section 6)."""

from fewplaymany.errors import BadHand, BadWeaving, BadWords, Done, HasBoxes, NoProgram
from fewplaymany.kinds import are_words, is_below, is_weaving
from fewplaymany.looks import Looking
from fewplaymany.programs import AnyProgram
from fewplaymany.rows import exchanged
from fewplaymany.runs import judged, steps_of


class Reads:
    """The hands of a PROGRAM, whose looks and writes are made of single reads.

    `made` has (hand, kind, value, first, last, moment) for each look, write and say that
    is done: what spans tells, and the number of the step behind which, or by which, it may
    stand as if it were done at once. `lent` has for each hand the moments of the LOOKs
    that it brought along with its writes.
    """

    def __init__(self, program, words):
        if not isinstance(program, AnyProgram):
            raise NoProgram(program)
        if program.boxes > 0:
            raise HasBoxes(program)
        if not are_words(words, program.many):
            raise BadWords(words)
        self.program = program
        self.words = words
        self.boards = ((0, None, None),) * program.many
        self.said = (None,) * program.many
        self.run = ()
        self.made = ()
        self.hands = [None if word is None else program.enter(hand, word) for hand, word in enumerate(words)]
        self.lookings = [Looking(program.many) for _ in words]
        self.lent = [[] for _ in words]

    def __eq__(self, other):
        if not isinstance(other, Reads):
            return False
        return self.program == other.program and self.words == other.words and self.run == other.run

    def __len__(self):
        return len(self.run)

    def copy(self):
        """An independent one, alike."""
        # Its hands are copied, so none has to come anew.
        other = Reads(self.program, (None,) * len(self.words))
        other.words = self.words
        other.boards = self.boards
        other.said = self.said
        other.run = self.run
        other.made = self.made
        other.hands = [None if hand is None else hand.copy() for hand in self.hands]
        other.lookings = [looking.copy() for looking in self.lookings]
        other.lent = [list(moments) for moments in self.lent]
        return other

    def next(self, hand):
        """The hand's next step, None if it has said, or never comes."""
        if not is_below(hand, self.program.many):
            raise BadHand(hand)
        due = None if self.hands[hand] is None else self.hands[hand].due
        if due is None or due[0] == "say":
            return due
        looking = self.lookings[hand]
        return ("read", looking.next_board()) if looking.look is None else due

    def step(self, hand):
        """Does the hand's next step, and returns it."""
        due = self.next(hand)
        if due is None:
            raise Done(hand)
        told = (due[1], self.boards[due[1]]) if due[0] == "read" else due[1]
        step = (hand, due[0], told)
        self.run = self.run + (step,)
        if due[0] == "read":
            self.reads_board(hand, told[1])
        elif due[0] == "write":
            self.writes(hand, told)
        else:
            self.says(hand, told)
        return step

    def weave(self, weaving):
        """Does a step of each hand in sequence, and returns those done."""
        if not is_weaving(weaving, self.program.many):
            raise BadWeaving(weaving)
        return tuple([self.step(hand) for hand in weaving if self.next(hand) is not None])

    def reads_board(self, hand, shown):
        """Takes what a board shows into the hand's LOOK, which may end its look."""
        looking = self.lookings[hand]
        looking.takes(len(self.run) - 1, shown)
        if looking.look is not None and self.hands[hand].due[0] == "look":
            self.hands[hand].step(values_of(looking.look))
            self.ends(hand, "look", looking.look, looking.first_place(), self.moment_of(looking))

    def writes(self, hand, value):
        """Writes, bringing along the LOOK that is made."""
        looking = self.lookings[hand]
        self.lent[hand].append(self.moment_of(looking))
        self.boards = exchanged(self.boards, hand, (self.boards[hand][0] + 1, value, looking.look))
        self.hands[hand].step()
        self.ends(hand, "write", value, looking.first_place(), len(self.run) - 1)

    def says(self, hand, word):
        """Says the word."""
        self.said = exchanged(self.said, hand, word)
        self.hands[hand].step()
        self.ends(hand, "say", word, len(self.run) - 1, len(self.run) - 1)

    def ends(self, hand, kind, value, first, moment):
        """Notes a look, write or say that its newest step ended."""
        self.made = self.made + ((hand, kind, value, first, len(self.run) - 1, moment),)
        self.lookings[hand] = Looking(self.program.many)

    def moment_of(self, looking):
        """The number of the step behind which all boards were as a LOOK that is made shows them."""
        if looking.lender is None:
            return looking.round_place()
        board, number = looking.lender
        return self.lent[board][number - 1]


def values_of(look):
    """The VALUES of a LOOK."""
    return tuple([value for number, value in look])


def spans(reads):
    """(hand, kind, value, first, last) of each look, write and say that is done."""
    return tuple([row[:5] for row in reads.made])


def plain_run(reads):
    """A run of plain looks in which nothing stands outside of its own span."""
    return tuple([plain_step(row) for row in sorted(reads.made, key=moment_in)])


def moment_in(row):
    """The moment of what was made."""
    return row[5]


def plain_step(row):
    """The STEP of a House that does what was made at once."""
    hand, kind, value = row[:3]
    return (hand, kind, values_of(value) if kind == "look" else value)


def shows_plain_run(reads, value):
    """Whether value is such a run as plain_run tells."""
    if judged(reads.program, reads.words, value) != ("run",):
        return False
    spread = []
    for hand in range(reads.program.many):
        rows = [row for row in reads.made if row[0] == hand]
        if steps_of(value, hand) != [plain_step(row) for row in rows]:
            return False
        spread.append(rows)
    sequence = []
    for step in value:
        sequence.append(spread[step[0]].pop(0))
    return keeps_sequence(sequence)


def keeps_sequence(rows):
    """Whether none of these begins, in its span, behind the end of one that stands behind it."""
    latest = -1
    for row in rows:
        if row[4] < latest:
            return False
        latest = max(latest, row[3])
    return True
