"""A second, plainest telling of point 17: a bench is the list of its deeds, which are done anew whenever something is asked."""

from plain_players import PlainHouse, PlainPlayed, PlainProgram


class Refused(Exception):
    """A deed that is refused, by the name of its error."""


class PlainBench:
    """What stands of a bench: deeds (word, numbers), and those that can be done again, the next one last."""

    def __init__(self, text, words, players=None):
        self.text = text
        self.words = words
        self.players = players
        self.done = []
        self.undone = []
        self.blocks = []

    def placed(self, deeds=None):
        """(house, stopped, watched) behind deeds."""
        program = PlainProgram(self.text)
        house = PlainHouse(program if self.players is None else PlainPlayed(program, self.players), self.words)
        stopped, watched = set(), []
        for word, numbers in self.done if deeds is None else deeds:
            if word in ("step", "weave"):
                for hand in numbers:
                    if hand not in stopped and house.next(hand) is not None:
                        house.step(hand)
            elif word == "forget":
                house.forget(numbers[0])
            elif word == "stop":
                stopped.add(numbers[0])
            elif word == "go":
                stopped.remove(numbers[0])
            elif word == "watch":
                watched.append(numbers[0])
            else:
                watched.remove(numbers[0])
        return house, stopped, watched

    def refusal(self, word, numbers):
        """The name of the error of a deed, and its value; None if it is let."""
        house, stopped, watched = self.placed()
        steppers = house.program.many
        hands = int(self.text.split("\n")[0].split(" ")[1])
        if word == "weave":
            bad = [hand for hand in numbers if not 0 <= hand < steppers]
            return ("BadWeaving", numbers) if bad else None
        hand = numbers[0]
        if word in ("watch", "unwatch"):
            if not 0 <= hand < hands:
                return ("BadHand", hand)
            if (hand in watched) == (word == "watch"):
                return ("Watched" if word == "watch" else "NotWatched", hand)
            return None
        if word == "forget" and self.players is None:
            return ("NotPlayed", None)
        if not 0 <= hand < steppers:
            return ("BadHand", hand)
        if word == "go":
            return None if hand in stopped else ("NotStopped", hand)
        if hand in stopped:
            return ("Stopped", hand)
        if word in ("step", "forget") and house.next(hand) is None:
            return ("Done", hand)
        return None

    def do(self, word, numbers):
        """Does a deed that is not refused, and returns the steps that came of it."""
        before = len(self.placed()[0].run)
        self.done.append((word, tuple(numbers)))
        self.undone.clear()
        return tuple(self.placed()[0].run[before:])

    def signs(self):
        """What signs tells."""
        house, stopped, watched = self.placed()
        found = []
        for hand in watched:
            if self.players is None:
                number = len([step for step in house.run if step[0] == hand])
                word = "said" if house.said[hand] is not None else "stopped" if hand in stopped else "on"
            else:
                steps = [row[0] for row in house.told()[1] if row[0][0] == hand]
                number = len(steps)
                word = "said" if [step for step in steps if step[1] == "say"] else "held" if house.held()[hand] else "on"
            found.append((hand, number, word))
        return tuple(found)

    def journal(self):
        """Its journal."""
        lines = [self.text, "words " + " ".join("-" if word is None else str(word) for word in self.words)]
        lines += ["plain" if self.players is None else f"played {self.players}", "deeds"]
        return "\n".join(lines + [" ".join([word, *map(str, numbers)]) for word, numbers in self.done])
