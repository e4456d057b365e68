"""Desks, at which a bench is told lines (section 17)."""

from fewplaymany.deeds import deed_in, does_deed
from fewplaymany.errors import BadLine, NotPlayed
from fewplaymany.journals import read_journal
from fewplaymany.kinds import integer_in
from fewplaymany.told import held

DONE = "done"
NONE = "none"
NOTHING = "-"


class Desk:
    """A desk with the bench of a journal."""

    def __init__(self, text):
        self.bench = read_journal(text)

    def say(self, line):
        """Does what a line asks for, and returns the answer."""
        if not isinstance(line, str):
            raise BadLine(line)
        deed = deed_in(line)
        if deed is not None:
            does_deed(self.bench, deed)
            return DONE
        words = line.split(" ")
        if words[0] == "next" and len(words) == 2 and integer_in(words[1]) is not None:
            return next_text(self.bench, integer_in(words[1]))
        return self.says_plainly(line)

    def says_plainly(self, line):
        """As say, of lines of one word."""
        if line == "undo":
            self.bench.undo()
            return DONE
        if line == "redo":
            self.bench.redo()
            return DONE
        answer = ANSWERS.get(line)
        if answer is None:
            raise BadLine(line)
        return answer(self.bench)


def next_text(bench, hand):
    """The kind of a stepper's next step."""
    due = bench.house().next(hand)
    return NOTHING if due is None else due[0]


def said_text(bench):
    """What each stepper has said."""
    return " ".join([NOTHING if word is None else str(word) for word in bench.house().said])


def signs_text(bench):
    """The signs of the watched hands."""
    signs = [f"{hand} {number} {word}" for hand, number, word in bench.signs()]
    return " ; ".join(signs) if signs else NONE


def held_text(bench):
    """The hands that players hold."""
    if bench.players is None:
        raise NotPlayed(None)
    hands = [str(hand) for hand, holders in enumerate(held(bench.house())) if holders]
    return " ".join(hands) if hands else NONE


def steps_text(bench):
    """How many steps are done."""
    return str(len(bench))


ANSWERS = {"said": said_text, "signs": signs_text, "held": held_text, "steps": steps_text}
