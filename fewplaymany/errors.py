"""All errors (section 18)."""


class HandError(ValueError):
    """Any error of this package; value is what it was raised for."""

    def __init__(self, value):
        self.value = value


class BadLot(HandError):
    """No lot: no ascending tuple of unlike integers from 0 on."""


class BadValue(HandError):
    """No VALUE, or too great a one."""


class BadHand(HandError):
    """No number of a hand."""


class BadWeaving(HandError):
    """No weaving."""


class NoProgram(HandError):
    """No PROGRAM."""


class HasBoxes(HandError):
    """A PROGRAM with boxes where these are barred."""


class BadProgram(HandError):
    """No text of a Program; value is the number of the line."""


class Wide(HandError):
    """A Program of too many steps; value is how many it may have."""


class BadWords(HandError):
    """No words for these hands."""


class BadBoxes(HandError):
    """No boxes for this PROGRAM."""


class NotAsking(HandError):
    """A hand whose next is no answer."""


class Done(HandError):
    """A hand that has no next step."""


class BadAnswer(HandError):
    """An answer that cannot be given here."""


class BadRun(HandError):
    """No tuple of STEPs."""


class BadText(HandError):
    """No text of a run; value is the number of the line."""


class NotSwapped(HandError):
    """STEPs that cannot be exchanged."""


class BadMany(HandError):
    """A wrong number of hands or players."""


class BadRow(HandError):
    """No row of views."""


class NoRow(HandError):
    """No number of a row of views."""


class NotCome(HandError):
    """A player that has not come to the door."""


class CameIn(HandError):
    """A player that has come to the door already."""


class BadTurns(HandError):
    """No turns of these players."""


class NotPlayed(HandError):
    """No House, or no bench, of a Played program."""


class BadTask(HandError):
    """No text of a Task; value is the number of the line."""


class NoWords(HandError):
    """A lot that is empty, or has words that the task has not."""


class OtherWords(HandError):
    """A Task of other words."""


class BadPairs(HandError):
    """No pairs that call the words of a task otherwise."""


class NotDone(HandError):
    """A task that two hands cannot do; value is the TREE that shows it."""


class BadTable(HandError):
    """No table of views."""


class BadRounds(HandError):
    """A wrong number of rounds."""


class BadStops(HandError):
    """A wrong number of stops."""


class NoBox(HandError):
    """No number of a box that is asked."""


class Twice(HandError):
    """A box that a hand can ask twice."""


class OtherHands(HandError):
    """A PROGRAM for another number of hands."""


class NotFilled(HandError):
    """No House of a Filled program."""


class TooMany(HandError):
    """Too many to go through; value is how many there may be."""


class Stopped(HandError):
    """A stepper that is stopped."""


class NotStopped(HandError):
    """A stepper that is not stopped."""


class Watched(HandError):
    """A hand that is watched already."""


class NotWatched(HandError):
    """A hand that is not watched."""


class NothingToUndo(HandError):
    """No deed that stands."""


class NothingToRedo(HandError):
    """No deed that was taken back."""


class NoBlock(HandError):
    """No block around this call."""


class BadJournal(HandError):
    """No journal; value is the number of the line."""


class BadLine(HandError):
    """No line that a desk knows."""
