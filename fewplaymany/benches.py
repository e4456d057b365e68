"""Benches, at which hands or players step, stop, forget and go on (section 17)."""

from fewplaymany.errors import BadHand, BadWeaving, HasBoxes, NoBlock, NothingToRedo, NothingToUndo, NotPlayed
from fewplaymany.errors import NotStopped, NotWatched, Stopped, Watched
from fewplaymany.houses import House
from fewplaymany.kinds import is_below, is_weaving, is_whole
from fewplaymany.lots import lot_of
from fewplaymany.players import forget, Played
from fewplaymany.programs import Program
from fewplaymany.runs import steps_of
from fewplaymany.told import held, told


class Bench:
    """A House, who is stopped, what is watched, and the deeds that came to this.

    `place` is the House as it stands: deeds are done on a copy, so it never changes. `past`
    has for each deed that stands (deed, standing ahead of it), `undone` for each that can
    be done again (deed, standing behind it), the next one last. A deed is (word, numbers), as
    its line has them. `around` is the innermost block, None outside of all.
    """

    def __init__(self, text, words, players=None):
        program = Program(text)
        if program.boxes > 0:
            raise HasBoxes(program)
        self.program = program
        self.players = players
        self.words = words
        self.place = House(program if players is None else Played(program, players), words)
        self.stopped = ()
        self.watched = ()
        self.deeds = 0
        self.past = ()
        self.undone = ()
        self.around = None

    def __eq__(self, other):
        if not isinstance(other, Bench):
            return False
        if self.program != other.program or self.words != other.words or self.players != other.players:
            return False
        return [row[0] for row in self.past] == [row[0] for row in other.past]

    def __len__(self):
        return len(self.place.run)

    def __contains__(self, x):
        return is_whole(x) and x in self.watched

    def copy(self):
        """An independent bench, alike in all things, outside of all blocks."""
        other = Bench(self.program.text, self.words, self.players)
        other.past = self.past
        other.undone = self.undone
        other.stands(self.standing())
        return other

    def step(self, hand):
        """Lets a stepper do its next step, and returns it."""
        self.check_goes(hand)
        house = self.place.copy()
        step = house.step(hand)
        self.does(("step", (hand,)), house, self.stopped, self.watched)
        return step

    def weave(self, weaving):
        """Lets steppers step in sequence, and returns the steps done."""
        if not is_weaving(weaving, self.place.program.many):
            raise BadWeaving(weaving)
        house = self.place.copy()
        steps = house.weave(tuple([hand for hand in weaving if hand not in self.stopped]))
        self.does(("weave", weaving), house, self.stopped, self.watched)
        return steps

    def forget(self, player):
        """Lets a player forget."""
        self.check_played()
        self.check_goes(player)
        house = self.place.copy()
        forget(house, player)
        self.does(("forget", (player,)), house, self.stopped, self.watched)

    def stop(self, hand):
        """Stops a stepper."""
        self.check_goes(hand)
        self.does(("stop", (hand,)), self.place, lot_of([*self.stopped, hand]), self.watched)

    def go(self, hand):
        """Lets a stopped stepper step again."""
        self.check_stepper(hand)
        if hand not in self.stopped:
            raise NotStopped(hand)
        self.does(("go", (hand,)), self.place, without(self.stopped, hand), self.watched)

    def watch(self, hand):
        """Watches a hand of the Program."""
        self.check_hand(hand)
        if hand in self.watched:
            raise Watched(hand)
        self.does(("watch", (hand,)), self.place, self.stopped, (*self.watched, hand))

    def unwatch(self, hand):
        """Watches a hand no more."""
        self.check_hand(hand)
        if hand not in self.watched:
            raise NotWatched(hand)
        self.does(("unwatch", (hand,)), self.place, self.stopped, without(self.watched, hand))

    def house(self):
        """A House that stands as the bench's does, by itself."""
        return self.place.copy()

    def story(self):
        """What the players have done, as a run of the Program."""
        self.check_played()
        return told(self.place)

    def signs(self):
        """(hand, how many steps it has done, how it stands) for each watched hand."""
        if self.players is None:
            return tuple([self.sign_of_stepper(hand) for hand in self.watched])
        steps = [row[0] for row in told(self.place)[1]]
        holders = held(self.place)
        return tuple([sign_of_played(steps_of(steps, hand), holders[hand], hand) for hand in self.watched])

    def undo(self):
        """Takes the last deed back that stands."""
        if not self.past:
            raise NothingToUndo(None)
        deed, ahead = self.past[-1]
        self.past = self.past[:-1]
        self.undone = (*self.undone, (deed, self.standing()))
        self.stands(ahead)

    def redo(self):
        """Does the deed again that was taken back last."""
        if not self.undone:
            raise NothingToRedo(None)
        deed, behind = self.undone[-1]
        self.undone = self.undone[:-1]
        self.past = (*self.past, (deed, self.standing()))
        self.stands(behind)

    def block(self):
        """What a with statement enters: behind it the bench is as it was, unless the block is kept."""
        return Block(self)

    def keep(self):
        """Keeps what is done in the innermost block."""
        if self.around is None:
            raise NoBlock(None)
        innermost = self.around
        innermost.kept = True

    def tried(self, look, *, keep=False):
        """What look returns for the bench, called in a block that is kept if keep is True."""
        with self.block():
            found = look(self)
            if keep is True:
                self.keep()
        return found

    def check_stepper(self, hand):
        """Raises BadHand unless this is the number of a stepper."""
        if not is_below(hand, self.place.program.many):
            raise BadHand(hand)

    def check_goes(self, hand):
        """Raises BadHand, or Stopped if this stepper is stopped."""
        self.check_stepper(hand)
        if hand in self.stopped:
            raise Stopped(hand)

    def check_hand(self, hand):
        """Raises BadHand unless this is the number of a hand of the Program."""
        if not is_below(hand, self.program.many):
            raise BadHand(hand)

    def check_played(self):
        """Raises NotPlayed if the bench is plain."""
        if self.players is None:
            raise NotPlayed(None)

    def does(self, deed, place, stopped, watched):
        """Takes a deed that came to this into the past."""
        self.past = (*self.past, (deed, self.standing()))
        self.undone = ()
        self.stands((place, stopped, watched))

    def standing(self):
        """What deeds change: (House, who is stopped, what is watched)."""
        return (self.place, self.stopped, self.watched)

    def stands(self, standing):
        """Lets the bench stand so, behind the deeds of its past."""
        self.place, self.stopped, self.watched = standing
        self.deeds = len(self.past)

    def sign_of_stepper(self, hand):
        """The sign of a hand that steps itself."""
        number = len(steps_of(self.place.run, hand))
        if self.place.said[hand] is not None:
            return (hand, number, "said")
        return (hand, number, "stopped" if hand in self.stopped else "on")


class Block:
    """A block of a bench, with the bench as it was when the block was entered.

    `kept` is None as long as the block is not kept, and True from then on.
    """

    def __init__(self, bench):
        self.bench = bench
        self.kept = None

    def __enter__(self):
        bench = self.bench
        self.around = bench.around
        self.place = bench.place
        self.stopped = bench.stopped
        self.watched = bench.watched
        self.deeds = bench.deeds
        self.past = bench.past
        self.undone = bench.undone
        bench.around = self
        return bench

    def __exit__(self, kind, value, trace):
        bench = self.bench
        bench.around = self.around
        if kind is not None or self.kept is None:
            bench.place = self.place
            bench.stopped = self.stopped
            bench.watched = self.watched
            bench.deeds = self.deeds
            bench.past = self.past
            bench.undone = self.undone


def without(hands, hand):
    """The hands but one."""
    return tuple([other for other in hands if other != hand])


def sign_of_played(steps, holders, hand):
    """The sign of a hand with these told STEPs, that these players hold."""
    if "say" in [step[1] for step in steps]:
        return (hand, len(steps), "said")
    return (hand, len(steps), "held" if holders else "on")
