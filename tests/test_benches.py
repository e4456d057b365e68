"""Point 17, of benches; and guarantee (k) of point 3."""

import random
import unittest

from fewplaymany import errors
from fewplaymany.benches import Bench
from fewplaymany.errors import BadHand, BadMany, BadProgram, BadWeaving, BadWords, Done, HasBoxes, NoBlock, NothingToRedo
from fewplaymany.errors import NothingToUndo, NotPlayed, NotStopped, NotWatched, Stopped, Watched, Wide
from fewplaymany.houses import House
from fewplaymany.journals import journal, read_journal
from fewplaymany.players import forget, Played
from fewplaymany.programs import Program
from fewplaymany.told import told
from helpers import ASKING, Case, LEAST, NO_HANDS, PAIR, ROUNDS, some_values, text_of
from plain_benches import PlainBench
from test_every import BOTH, FIRST, KNOT

DEEDS = ("step", "forget", "stop", "go", "watch", "unwatch")


def state(bench):
    """All that can be seen of a bench."""
    return (journal(bench), bench.program, bench.players, bench.words, bench.stopped, bench.watched, bench.deeds, len(bench),
            bench.house(), bench.signs(), None if bench.players is None else bench.story())


def call(bench, word, *numbers):
    """Does a deed by its word."""
    return getattr(bench, word)(tuple(numbers) if word == "weave" else numbers[0])


def some_deed(any_of, many, hands):
    """A deed, as a word and numbers, which may be refused."""
    word = any_of.choice(("step", "step", "weave", "weave", "forget", "stop", "go", "watch", "unwatch"))
    if word == "weave":
        return word, tuple([any_of.randint(-1, many) if any_of.random() < 0.02 else any_of.randrange(many) for _ in range(any_of.randint(0, 8))])
    if word in ("watch", "unwatch"):
        return word, (any_of.randint(-1, hands) if any_of.random() < 0.1 else any_of.randrange(hands),)
    return word, (any_of.randint(-1, many) if any_of.random() < 0.1 else any_of.randrange(many),)


class Making(Case):
    def test_properties(self):
        bench = Bench(PAIR, (3, 7))
        self.same([bench.program, bench.players, bench.words, bench.stopped, bench.watched, bench.deeds, len(bench)],
                  [Program(PAIR), None, (3, 7), (), (), 0, 0])
        bench = Bench(text=ROUNDS, words=(3, None, 7, 5), players=4)
        self.same([bench.program, bench.players, bench.words, bench.stopped, bench.watched, bench.deeds, len(bench)],
                  [Program(ROUNDS), 4, (3, None, 7, 5), (), (), 0, 0])
        self.same(bench.house(), House(Played(Program(ROUNDS), 4), (3, None, 7, 5)))
        self.same(Bench(PAIR, (3, 7), None).house(), House(Program(PAIR), (3, 7)))
        for players in range(1, 5):
            self.same(Bench(LEAST, (1,) * players, players).house().program, Played(Program(LEAST), players))

    def test_errors_in_sequence(self):
        for value in some_values():
            if not isinstance(value, str):
                self.refuses(BadProgram, 0, Bench, value, None, 0)
        self.refuses(BadProgram, 1, Bench, "", None, 0)
        self.refuses(BadProgram, 3, Bench, "hands 2\nwrite mine\nsay", None, 0)
        self.refuses(BadProgram, 3, Bench, "hands 2\nwrite mine", None, 0)
        self.refuses(Wide, 200, Bench, "hands 1\nagain 9\nagain 9\nask 0 0 a\nagain 9\nlook s\nend\nend\nend\nsay 0", None, 0)
        self.refuses(HasBoxes, Program(ASKING), Bench, ASKING, None, 0)
        self.refuses(HasBoxes, Program(ASKING), Bench, ASKING, (1, 2))
        for players in (0, 5, -1, True, False, "2", (2,), 2.0, [], {}):
            self.refuses(BadMany, players, Bench, PAIR, None, players)
        for words in (None, (), (1,), (1, 2, 3), [1, 2], (1, True), (1, 100), (1, -1), (1, "2"), "12", 3, {}):
            self.refuses(BadWords, words, Bench, PAIR, words)
            self.refuses(BadWords, words, Bench, PAIR, words, 2)
        self.refuses(BadWords, (1, 2), Bench, PAIR, (1, 2), 3)

    def test_equality(self):
        one, other = Bench(PAIR, (3, 7)), Bench(PAIR, (3, 7))
        self.equal(one, other)
        one.step(0)
        self.unequal(one, other)
        other.weave((0,))
        # The same steps, by another deed.
        self.same(one.house(), other.house())
        self.unequal(one, other)
        other.undo()
        self.unequal(one, other)
        other.step(0)
        self.equal(one, other)
        one.watch(1)
        one.unwatch(1)
        self.unequal(one, other)
        for beside in (Bench(LEAST, (3, 7)), Bench(PAIR, (3, 8)), Bench(PAIR, (3, None)), Bench(PAIR, (3, 7), 2)):
            self.unequal(beside, Bench(PAIR, (3, 7)))
        self.unequal(Bench(PAIR, (3,), 1), Bench(PAIR, (3, 7), 2))
        for value in some_values() + [journal(one), one.house(), None]:
            if not isinstance(value, Bench):
                self.unequal(one, value)

    def test_what_can_be_done_again_does_not_count(self):
        one, other = Bench(PAIR, (3, 7)), Bench(PAIR, (3, 7))
        one.step(0)
        one.undo()
        self.equal(one, other)

    def test_operators(self):
        bench = Bench(PAIR, (3, 7))
        for wrong in (lambda: bench < bench, lambda: bench + bench, lambda: bench[0], lambda: iter(bench), lambda: bench * 2, lambda: -bench):
            self.assertRaises(TypeError, wrong)
        bench.watch(0)
        self.same([0 in bench, 1 in bench], [True, False])
        for value in some_values() + [False, 0.0, "0", (0,), -1]:
            self.same(value in bench, type(value) is int and value == 0)


class Deeds(Case):
    def test_step(self):
        bench = Bench(PAIR, (3, 7))
        self.same([bench.step(0), bench.step(hand=1), bench.step(0), len(bench), bench.deeds],
                  [(0, "write", 3), (1, "write", 7), (0, "look", (3, 7)), 3, 3])
        bench.step(0)
        self.refuses(Done, 0, bench.step, 0)
        bench.stop(0)
        self.refuses(Stopped, 0, bench.step, 0)
        bench = Bench(PAIR, (3, None))
        self.refuses(Done, 1, bench.step, 1)

    def test_weave(self):
        bench = Bench(PAIR, (3, 7))
        bench.stop(1)
        self.same([bench.weave((0, 1, 0, 1)), bench.weave(()), bench.weave(weaving=(1,)), bench.deeds],
                  [((0, "write", 3), (0, "look", (3, None))), (), (), 4])
        bench.go(1)
        self.same([bench.weave((0, 0, 1, 0)), len(bench)], [((0, "say", 3), (1, "write", 7)), 4])
        self.same(len(Bench(BOTH, (3, 7)).weave((0,) * 3000)), 3000)

    def test_forget(self):
        bench = Bench(PAIR, (3, 7), 2)
        house = House(Played(Program(PAIR), 2), (3, 7))
        for _ in range(6):
            self.same(bench.step(0), house.step(0))
        self.same([bench.forget(player=0), forget(house, 0), bench.house() == house, len(bench), bench.deeds], [None, None, True, 7, 7])
        bench.stop(0)
        self.refuses(Stopped, 0, bench.forget, 0)
        bench.go(0)
        bench.weave((0,) * 60)
        self.refuses(Done, 0, bench.forget, 0)
        self.refuses(Done, 1, Bench(PAIR, (3, None), 2).forget, 1)

    def test_stop_and_go(self):
        bench = Bench(ROUNDS, (1, None, 3))
        self.same([bench.stop(2), bench.stop(hand=0), bench.stopped, bench.stop(1), bench.stopped], [None, None, (0, 2), None, (0, 1, 2)])
        self.same([bench.go(0), bench.stopped, bench.go(hand=2), bench.stopped], [None, (1, 2), None, (1,)])
        self.refuses(NotStopped, 0, bench.go, 0)
        self.refuses(Stopped, 1, bench.stop, 1)
        # Who has said may be stopped, too.
        bench.weave((0,) * 9)
        self.same([bench.house().said[0], bench.stop(0), bench.stopped], [1, None, (0, 1)])

    def test_watch(self):
        bench = Bench(LEAST, (1, 2, 3), 3)
        self.same([bench.watch(1), bench.watch(hand=0), bench.watched], [None, None, (1, 0)])
        self.refuses(Watched, 1, bench.watch, 1)
        # There is no hand 2, though there are three players.
        self.refuses(BadHand, 2, bench.watch, 2)
        self.refuses(BadHand, 2, bench.unwatch, 2)
        self.same([bench.unwatch(1), bench.watched, bench.watch(1), bench.watched], [None, (0,), None, (0, 1)])
        bench.unwatch(hand=0)
        self.refuses(NotWatched, 0, bench.unwatch, 0)
        few = Bench(ROUNDS, (1,), 1)
        self.same([few.watch(2), few.watched], [None, (2,)])
        self.refuses(BadHand, 1, few.step, 1)

    def test_what_is_refused_changes_nothing(self):
        plain, played = Bench(PAIR, (3, 7)), Bench(PAIR, (3, None, 5), 3)
        for bench in (plain, played):
            bench.weave((0, 0, 0))
            bench.stop(1)
            bench.watch(1)
            bench.step(0) if bench is played else bench.weave(())
            bench.undo()
        for bench in (plain, played):
            before = state(bench)
            for value in (*NO_HANDS, bench.house().program.many):
                for name in ("step", "stop", "go"):
                    self.refuses(BadHand, value, getattr(bench, name), value)
                self.refuses(BadWeaving, (0, value), bench.weave, (0, value))
                if value is not None:
                    self.refuses(BadHand if bench is played else NotPlayed, value if bench is played else None, bench.forget, value)
            for value in (*NO_HANDS, 2):
                self.refuses(BadHand, value, bench.watch, value)
                self.refuses(BadHand, value, bench.unwatch, value)
            for value in (None, 0, [0], "0", {}, (0,) * 3001, (True,)):
                self.refuses(BadWeaving, value, bench.weave, value)
            for error, value, name in ((Stopped, 1, "step"), (Stopped, 1, "stop"), (NotStopped, 0, "go"), (Watched, 1, "watch"), (NotWatched, 0, "unwatch"),
                                       (NoBlock, None, "keep")):
                self.refuses(error, value, getattr(bench, name), *([] if name == "keep" else [value]))
            self.same(state(bench), before)
            # What was taken back can still be done again.
            bench.redo()
            bench.undo()
            self.same(state(bench), before)
        self.refuses(Done, 0, plain.step, 0)
        self.refuses(NotPlayed, None, plain.forget, 0)
        self.refuses(NotPlayed, None, plain.forget, "none")
        self.refuses(Stopped, 1, played.forget, 1)

    def test_errors_ahead_of_others(self):
        bench = Bench(PAIR, (3, None), 2)
        bench.stop(1)
        # Player 1 never comes, but it is stopped ahead of that.
        self.refuses(Stopped, 1, bench.step, 1)
        self.refuses(Stopped, 1, bench.forget, 1)
        bench.go(1)
        self.refuses(Done, 1, bench.step, 1)
        self.refuses(Done, 1, bench.forget, 1)


class Telling(Case):
    def test_house_by_itself(self):
        for bench in (Bench(PAIR, (3, 7)), Bench(PAIR, (3, 7), 2)):
            bench.weave((0, 1, 0))
            before = state(bench)
            house = bench.house()
            self.same([house == bench.house(), house is bench.house()], [True, False])
            house.weave((0, 1) * 20)
            self.same(state(bench), before)
            bench.step(1)
            self.same(len(bench), 4)

    def test_story(self):
        self.refuses(NotPlayed, None, Bench(PAIR, (3, 7)).story)
        bench = Bench(PAIR, (3, 7), 2)
        self.same(bench.story(), ((None, None), ()))
        for seed in range(20):
            any_of = random.Random(seed)
            bench.weave(tuple([any_of.randrange(2) for _ in range(5)]))
            self.same(bench.story(), told(bench.house()))

    def test_signs_of_a_plain_bench(self):
        bench = Bench(ROUNDS, (1, None, 3))
        self.same(bench.signs(), ())
        for hand in (2, 0, 1):
            bench.watch(hand)
        self.same(bench.signs(), ((2, 0, "on"), (0, 0, "on"), (1, 0, "on")))
        bench.weave((0, 0, 2))
        bench.stop(2)
        bench.stop(1)
        self.same(bench.signs(), ((2, 1, "stopped"), (0, 2, "on"), (1, 0, "stopped")))
        bench.weave((0,))
        bench.stop(0)
        bench.go(2)
        self.same(bench.signs(), ((2, 1, "on"), (0, 3, "said"), (1, 0, "stopped")))
        bench.unwatch(2)
        self.same(bench.signs(), ((0, 3, "said"), (1, 0, "stopped")))

    def test_signs_of_a_played_bench(self):
        bench = Bench(PAIR, (3, 7), 2)
        bench.watch(1)
        bench.watch(0)
        bench.step(0)
        self.same(bench.signs(), ((1, 0, "on"), (0, 0, "held")))
        # That the player is stopped is not what is told of hands.
        bench.stop(0)
        bench.weave((1,) * 40)
        self.same([bench.signs(), bench.house().said], [((1, 3, "said"), (0, 0, "held")), (None, 7)])
        bench.go(0)
        bench.weave((0,) * 3)
        self.same(bench.signs(), ((1, 3, "said"), (0, 0, "on")))

    def test_said_comes_ahead_of_held(self):
        # One player told the hand's say; another one stands at level 1 at an earlier door of it.
        bench = Bench(text_of("look a", "say count a"), (3, 7), 2)
        bench.watch(0)
        bench.weave((0,) * 14)
        self.same(bench.signs()[0][2], "said")
        bench.weave((1,))
        self.same(bench.signs()[0][2], "said")


class Undoing(Case):
    def test_undo_and_redo(self):
        bench = Bench(PAIR, (3, 7), 2)
        self.refuses(NothingToUndo, None, bench.undo)
        self.refuses(NothingToRedo, None, bench.redo)
        deeds = [("step", 0), ("weave", 0, 1, 1), ("stop", 1), ("watch", 1), ("forget", 0), ("weave",), ("go", 1), ("unwatch", 1), ("step", 1)]
        states = [state(bench)]
        for deed in deeds:
            call(bench, *deed)
            states.append(state(bench))
            self.same(bench.deeds, len(states) - 1)
        for _ in range(2):
            for before in states[-2::-1]:
                self.same([bench.undo(), state(bench)], [None, before])
            self.refuses(NothingToUndo, None, bench.undo)
            for behind in states[1:]:
                self.same([bench.redo(), state(bench)], [None, behind])
            self.refuses(NothingToRedo, None, bench.redo)

    def test_another_deed_ends_redo(self):
        for deed in (("step", 0), ("weave",), ("stop", 0), ("watch", 0)):
            bench = Bench(PAIR, (3, 7))
            bench.step(1)
            bench.step(1)
            bench.undo()
            call(bench, *deed)
            self.refuses(NothingToRedo, None, bench.redo)
            bench.undo()
            self.same([bench.redo(), bench.deeds], [None, 2])

    def test_a_refused_deed_does_not(self):
        bench = Bench(PAIR, (3, 7))
        bench.step(1)
        bench.stop(0)
        bench.undo()
        self.refuses(NotStopped, 0, bench.go, 0)
        self.refuses(BadWeaving, (2,), bench.weave, (2,))
        self.same([bench.redo(), bench.stopped], [None, (0,)])

    def test_undo_leaves_nothing(self):
        one, other = Bench(ROUNDS, (1, 2, 3), 3), Bench(ROUNDS, (1, 2, 3), 3)
        any_of = random.Random(7)
        for _ in range(60):
            word, numbers = some_deed(any_of, 3, 3)
            try:
                call(one, word, *numbers)
            except errors.HandError:
                continue
            self.same(one.deeds, other.deeds + 1)
            if any_of.random() < 0.4:
                one.undo()
            else:
                call(other, word, *numbers)
            self.same(state(one), state(other))
            self.equal(one, other)


class Blocks(Case):
    def deeds(self, bench):
        bench.weave((0, 1))
        bench.stop(0)
        bench.watch(1)
        bench.undo()

    def test_not_kept(self):
        bench = Bench(PAIR, (3, 7))
        bench.step(0)
        bench.step(0)
        bench.undo()
        before = state(bench)
        with bench.block() as held:
            self.assertIs(held, bench)
            self.same(state(bench), before)
            self.deeds(bench)
            self.same([bench.deeds, bench.stopped, bench.watched, len(bench)], [3, (0,), (), 3])
        self.same(state(bench), before)
        self.same([bench.redo(), len(bench)], [None, 2])

    def test_kept(self):
        bench = Bench(PAIR, (3, 7))
        bench.step(0)
        with bench.block() as held:
            self.same(held.keep(), None)
            self.deeds(bench)
        self.same([bench.deeds, bench.stopped, bench.watched], [3, (0,), ()])
        self.same([bench.redo(), bench.watched, bench.undo(), bench.undo(), bench.undo(), bench.undo(), bench.deeds], [None, (1,), None, None, None, None, 0])
        self.refuses(NothingToUndo, None, bench.undo)
        self.refuses(NoBlock, None, bench.keep)

    def test_left_by_an_error(self):
        bench = Bench(PAIR, (3, 7), 2)
        bench.step(0)
        before = state(bench)
        for keeps in (False, True):
            for error in (KeyError("a"), Stopped(0), SystemExit(1)):
                with self.assertRaises(type(error)) as held:
                    with bench.block():
                        if keeps:
                            bench.keep()
                        self.deeds(bench)
                        raise error
                self.assertIs(held.exception, error)
                self.same(state(bench), before)
                self.refuses(NoBlock, None, bench.keep)
        # An error that does not leave the block is none.
        with bench.block():
            bench.keep()
            self.refuses(BadHand, 9, bench.step, 9)
            bench.step(1)
        self.same(bench.deeds, 2)

    def test_within_one_another(self):
        for outer_kept in (False, True):
            for inner_kept in (False, True):
                bench = Bench(PAIR, (3, 7))
                bench.step(0)
                with bench.block():
                    bench.step(1)
                    with bench.block():
                        bench.watch(0)
                        if inner_kept:
                            bench.keep()
                        bench.step(1)
                    self.same([bench.deeds, bench.watched], [4, (0,)] if inner_kept else [2, ()])
                    bench.stop(1)
                    if outer_kept:
                        bench.keep()
                self.same(bench.deeds, (5 if inner_kept else 3) if outer_kept else 1)
                self.same([bench.stopped, bench.watched], [(1,) if outer_kept else (), (0,) if outer_kept and inner_kept else ()])
                self.refuses(NoBlock, None, bench.keep)

    def test_keep_belongs_to_the_innermost(self):
        bench = Bench(PAIR, (3, 7))
        with bench.block():
            with bench.block():
                bench.step(0)
                bench.keep()
            with bench.block():
                bench.step(0)
            self.same(bench.deeds, 1)
        self.same(bench.deeds, 0)

    def test_undo_goes_on_to_what_was_done_ahead(self):
        bench = Bench(PAIR, (3, 7))
        for _ in range(3):
            bench.step(0)
        bench.undo()
        before = state(bench)
        with bench.block():
            bench.redo()
            self.same(bench.deeds, 3)
            for _ in range(3):
                bench.undo()
            self.same([bench.deeds, len(bench)], [0, 0])
            bench.redo()
        self.same(state(bench), before)
        with bench.block():
            bench.undo()
            bench.undo()
            bench.watch(1)
            bench.keep()
        self.same([journal(bench).split("\n")[-1], bench.deeds, len(bench)], ["watch 1", 1, 0])
        self.refuses(NothingToRedo, None, bench.redo)
        self.same([bench.undo(), bench.deeds], [None, 0])

    def test_what_can_be_done_again_behind_a_block(self):
        bench = Bench(PAIR, (3, 7))
        bench.step(0)
        bench.undo()
        with bench.block():
            bench.watch(0)
            self.refuses(NothingToRedo, None, bench.redo)
        self.same([bench.redo(), len(bench)], [None, 1])

    def test_a_block_that_is_not_entered(self):
        bench = Bench(PAIR, (3, 7))
        block = bench.block()
        bench.step(0)
        self.refuses(NoBlock, None, bench.keep)
        with block:
            bench.step(0)
        # It is as it was when the block was entered.
        self.same(bench.deeds, 1)

    def test_blocks_are_not_deeds(self):
        bench = Bench(PAIR, (3, 7))
        bench.step(0)
        bench.undo()
        with bench.block():
            bench.keep()
        self.same([bench.deeds, bench.redo(), bench.deeds], [0, None, 1])


class Tried(Case):
    def test_not_kept(self):
        bench = Bench(PAIR, (3, 7))
        bench.step(0)
        before = state(bench)

        def look(held):
            self.assertIs(held, bench)
            return held.weave((1, 1, 1)), held.deeds

        told = bench.tried(look)
        self.same([told, state(bench)], [(((1, "write", 7), (1, "look", (3, 7)), (1, "say", 7)), 2), before])
        for value in (False, 1, 0, "True", (True,), [True], None, "yes"):
            self.same([bench.tried(look, keep=value), state(bench)], [told, before])
        self.assertRaises(TypeError, bench.tried, look, True)

    def test_kept(self):
        bench = Bench(PAIR, (3, 7))
        self.same([bench.tried(look=lambda held: held.step(0), keep=True), bench.deeds], [(0, "write", 3), 1])
        self.same([bench.tried(lambda held: [held.step(0), held.keep()]), bench.deeds], [[(0, "look", (3, None)), None], 2])
        self.refuses(NoBlock, None, bench.keep)

    def test_keep_in_an_inner_block(self):
        bench = Bench(PAIR, (3, 7))

        def look(held):
            with held.block():
                held.step(0)
                held.keep()
            return held.tried(lambda again: again.step(0), keep=True)

        self.same([bench.tried(look), bench.deeds], [(0, "look", (3, None)), 0])
        self.same([bench.tried(look, keep=True), bench.deeds], [(0, "look", (3, None)), 2])

    def test_errors_pass_on(self):
        bench = Bench(PAIR, (3, 7))
        before = state(bench)

        def look(held):
            held.step(0)
            held.keep()
            held.step(9)

        for keep in (True, False):
            self.refuses(BadHand, 9, bench.tried, look, keep=keep)
            self.same(state(bench), before)
        error = RuntimeError("all")

        def fails(held):
            raise error

        with self.assertRaises(RuntimeError) as held:
            bench.tried(fails, keep=True)
        self.assertIs(held.exception, error)
        self.refuses(NoBlock, None, bench.keep)


class Copies(Case):
    def test_alike_and_independent(self):
        for bench in (Bench(PAIR, (3, 7)), Bench(PAIR, (3, 7, 5), 3)):
            bench.weave((0, 1, 1))
            bench.watch(1)
            bench.stop(0)
            bench.step(1)
            bench.undo()
            bench.undo()
            other = bench.copy()
            self.equal(bench, other)
            self.same([state(other), other is bench], [state(bench), False])
            before = state(bench)
            self.same([other.redo(), other.redo(), other.deeds, other.undo(), other.undo(), other.undo(), other.undo(), other.deeds],
                      [None, None, 4, None, None, None, None, 0])
            self.same(state(bench), before)
            other = bench.copy()
            bench.redo()
            bench.undo()
            bench.undo()
            self.same(state(other), before)

    def test_outside_of_all_blocks(self):
        bench = Bench(PAIR, (3, 7))
        with bench.block():
            bench.step(0)
            other = bench.copy()
            self.refuses(NoBlock, None, other.keep)
            other.step(0)
            bench.keep()
            with other.block():
                other.step(0)
                other.keep()
        self.same([bench.deeds, other.deeds], [1, 3])
        with bench.block():
            other = bench.copy()
            bench.step(1)
        self.same([bench.deeds, other.deeds], [1, 1])


class Plainest(Case):
    def plain_state(self, plain):
        house, stopped, watched = plain.placed()
        return (plain.journal(), tuple(sorted(stopped)), tuple(watched), len(plain.done), len(house.run), tuple(house.run), tuple(house.said), tuple(house.boards),
                plain.signs(), None if plain.players is None else house.told())

    def bench_state(self, bench):
        house = bench.house()
        return (journal(bench), bench.stopped, bench.watched, bench.deeds, len(bench), house.run, house.said, house.boards, bench.signs(),
                None if bench.players is None else bench.story())

    def test_against_the_plainest_telling(self):
        for seed in range(60):
            any_of = random.Random(seed)
            text = any_of.choice((PAIR, LEAST, ROUNDS, BOTH, FIRST, KNOT))
            hands = int(text.split("\n")[0][6:])
            players = any_of.choice((None, None, 1, 2, 3, 4))
            many = hands if players is None else players
            words = tuple([any_of.choice((None, 3)) if any_of.random() < 0.2 else any_of.randint(0, 99) for _ in range(many)])
            bench, plain = Bench(text, words, players), PlainBench(text, words, players)
            self.acts(any_of, bench, plain, many, hands, 25)
            self.same(read_journal(journal(bench)) == bench, True)

    def acts(self, any_of, bench, plain, many, hands, times, deep=0):
        for _ in range(times):
            kind = any_of.random()
            if kind < 0.12 and plain.done:
                plain.undone.append(plain.done.pop())
                self.same(bench.undo(), None)
            elif kind < 0.2:
                self.redoes(bench, plain)
            elif kind < 0.28 and deep < 3:
                self.enters(any_of, bench, plain, many, hands, deep)
            elif kind < 0.33:
                bench = bench.copy() if deep == 0 else bench
            else:
                self.does(bench, plain, *some_deed(any_of, many, hands))
            self.same(self.bench_state(bench), self.plain_state(plain))

    def redoes(self, bench, plain):
        if plain.undone:
            plain.done.append(plain.undone.pop())
            self.same(bench.redo(), None)
        else:
            self.refuses(NothingToRedo, None, bench.redo)

    def enters(self, any_of, bench, plain, many, hands, deep):
        before = (list(plain.done), list(plain.undone))
        keep, fails = any_of.random() < 0.5, any_of.random() < 0.2
        try:
            with bench.block():
                if keep:
                    bench.keep()
                self.acts(any_of, bench, plain, many, hands, 4, deep + 1)
                if fails:
                    raise KeyError("left")
        except KeyError:
            pass
        if fails or not keep:
            plain.done, plain.undone = before

    def does(self, bench, plain, word, numbers):
        refusal = plain.refusal(word, numbers)
        if refusal is not None:
            self.refuses(getattr(errors, refusal[0]), refusal[1], call, bench, word, *numbers)
            return
        steps = plain.do(word, numbers)
        self.same(call(bench, word, *numbers), steps if word == "weave" else steps[0] if word == "step" else None)


if __name__ == "__main__":
    unittest.main()
