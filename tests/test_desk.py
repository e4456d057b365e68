"""Point 17, of a desk."""

import random
import unittest

from fewplaymany import errors
from fewplaymany.benches import Bench
from fewplaymany.desk import Desk
from fewplaymany.errors import BadHand, BadJournal, BadLine, BadWeaving, Done, NothingToRedo, NothingToUndo, NotPlayed, NotStopped, NotWatched
from fewplaymany.errors import Stopped, Watched
from fewplaymany.journals import journal, read_journal
from fewplaymany.told import held
from helpers import Case, LEAST, PAIR, ROUNDS, some_values
from test_benches import state

PLAIN = PAIR + "\nwords 3 7\nplain\ndeeds"
PLAYED = PAIR + "\nwords 3 7\nplayed 2\ndeeds"


class Lines(Case):
    def says(self, desk, *pairs):
        """Each line has this answer."""
        for line, answer in pairs:
            self.same(desk.say(line), answer, line)

    def test_a_plain_bench(self):
        desk = Desk(text=PLAIN)
        self.says(desk, ("next 0", "write"), ("said", "- -"), ("signs", "none"), ("steps", "0"), ("step 0", "done"), ("next 0", "look"),
                  ("weave 1 0", "done"), ("next 0", "say"), ("step 0", "done"), ("next 0", "-"), ("said", "7 -"), ("watch 1", "done"), ("watch 0", "done"),
                  ("signs", "1 1 on ; 0 3 said"), ("stop 1", "done"), ("signs", "1 1 stopped ; 0 3 said"), ("next 1", "look"), ("weave", "done"), ("weave 1 1", "done"),
                  ("steps", "4"), ("undo", "done"), ("redo", "done"), ("go 1", "done"), ("weave 1 1", "done"), ("said", "7 7"), ("unwatch 1", "done"),
                  ("signs", "0 3 said"), ("undo", "done"), ("signs", "1 3 said ; 0 3 said"))
        self.same(desk.say(line="steps"), "6")
        self.refuses(NotPlayed, None, desk.say, "held")
        self.refuses(NotPlayed, None, desk.say, "forget 0")

    def test_a_played_bench(self):
        desk = Desk(PLAYED + "\nwatch 1\nwatch 0")
        self.says(desk, ("held", "none"), ("signs", "1 0 on ; 0 0 on"), ("step 0", "done"), ("held", "0"), ("signs", "1 0 on ; 0 0 held"), ("forget 0", "done"),
                  ("steps", "2"), ("next 0", "look"), ("weave 1 1 1", "done"), ("next 1", "look"), ("weave 1 1", "done"), ("held", "0 1"),
                  ("weave" + " 0" * 40 + " 1" * 40, "done"), ("held", "none"))
        self.same(desk.say("signs"), " ; ".join(["{} {} {}".format(*sign) for sign in desk.bench.signs()]))

    def test_who_never_comes(self):
        desk = Desk(ROUNDS + "\nwords - 0 99\nplain\ndeeds")
        self.says(desk, ("next 0", "-"), ("said", "- - -"), ("weave 1 1 1 1 2 2", "done"), ("said", "- 0 -"), ("next 2", "say"), ("step 2", "done"), ("said", "- 0 99"))

    def test_the_bench_is_the_very_one(self):
        desk = Desk(PLAIN + "\nstep 0")
        bench = desk.bench
        self.same(type(bench), Bench)
        desk.say("step 0")
        self.assertIs(desk.bench, bench)
        self.same([len(bench), journal(bench)], [2, PLAIN + "\nstep 0\nstep 0"])
        bench.step(1)
        self.says(desk, ("steps", "3"), ("undo", "done"), ("steps", "2"))
        self.same(len(bench), 2)
        with bench.block():
            desk.say("step 0")
        self.same(desk.say("said"), "- -")

    def test_bad_journal(self):
        for value in some_values():
            if not isinstance(value, str):
                self.refuses(BadJournal, 0, Desk, value)
        self.refuses(BadJournal, 2, Desk, "")
        self.refuses(BadJournal, 8, Desk, PLAIN + "\nstep 2")
        self.refuses(BadJournal, 5, Desk, text=PLAIN.replace("words 3 7", "words 3"))

    def test_bad_line(self):
        desk = Desk(PLAIN)
        before = state(desk.bench)
        lines = ["", " ", "step", "step ", "step 0 0", "step 00", "step 0 ", " step 0", "step  0", "step x", "step -", "step -0", "step +0", "step 0.0", "Step 0",
                 "step 0\n", "\nstep 0", "step 0\nstep 0", "undo\n", "said\n", "weave\n", "weave 0 1\n", "weave ", "weave 0  1", "weave 0 x", "weave,0", "undo 1", "redo 0",
                 "undo ", "next", "next ", "next x", "next 0 1", "next 00", "next  0", "next 0\n", "said 0", "said ", "signs ", "signs 0", "held 0", "steps 0", "steps ", "deeds",
                 "plain", "words 3 7", "none", "done", "-", "forget", "stop", "go", "watch", "unwatch", "stop 0 1", "go -", "keep", "copy", "UNDO", "step\t0", "ANSWERS"]
        for line in lines + [value for value in some_values() + [b"undo", ["undo"], ("undo",)] if not isinstance(value, str)]:
            self.refuses(BadLine, line, desk.say, line)
        self.same(state(desk.bench), before)

    def test_what_the_bench_raises(self):
        for text in (PLAIN, PLAYED):
            desk = Desk(text)
            self.refuses(NothingToUndo, None, desk.say, "undo")
            self.refuses(NothingToRedo, None, desk.say, "redo")
            desk.say("stop 1")
            desk.say("watch 0")
            before = state(desk.bench)
            for number in (2, -1, 99999999, -99999999):
                for word in ("step", "stop", "go", "watch", "unwatch", "next"):
                    self.refuses(BadHand, number, desk.say, f"{word} {number}")
                self.refuses(BadWeaving, (0, number), desk.say, f"weave 0 {number}")
            for line, error, value in (("step 1", Stopped, 1), ("stop 1", Stopped, 1), ("go 0", NotStopped, 0), ("watch 0", Watched, 0), ("unwatch 1", NotWatched, 1)):
                self.refuses(error, value, desk.say, line)
            self.same(state(desk.bench), before)
        self.refuses(Stopped, 1, desk.say, "forget 1")
        self.refuses(BadHand, 2, desk.say, "forget 2")
        desk = Desk(PLAIN + "\nweave 0 0 0")
        self.refuses(Done, 0, desk.say, "step 0")

    def test_steppers_and_hands(self):
        desk = Desk(LEAST + "\nwords 1 2 3\nplayed 3\ndeeds")
        self.says(desk, ("next 2", "write"), ("stop 2", "done"), ("watch 1", "done"))
        self.refuses(BadHand, 2, desk.say, "watch 2")
        self.refuses(BadHand, 3, desk.say, "next 3")
        desk = Desk(ROUNDS + "\nwords 1\nplayed 1\ndeeds")
        self.says(desk, ("watch 2", "done"), ("step 0", "done"), ("held", "0"))
        self.refuses(BadHand, 1, desk.say, "next 1")

    def test_a_bench_beside(self):
        for seed in range(40):
            any_of = random.Random(seed)
            text = any_of.choice((PLAIN, PLAYED))
            desk, bench = Desk(text), read_journal(text)
            for _ in range(40):
                number = any_of.randint(0, 1)
                word = any_of.choice(("step", "step", "stop", "go", "watch", "unwatch", "forget", "undo", "redo", "weave"))
                numbers = tuple([any_of.randint(0, 1) for _ in range(any_of.randint(0, 6))])
                line = word if word in ("undo", "redo") else " ".join([word, *map(str, numbers)]) if word == "weave" else f"{word} {number}"
                try:
                    getattr(bench, word)(*([] if word in ("undo", "redo") else [numbers] if word == "weave" else [number]))
                except errors.HandError as error:
                    self.refuses(type(error), error.value, desk.say, line)
                else:
                    self.same(desk.say(line), "done")
                house = bench.house()
                self.same(desk.say("said"), " ".join(["-" if said is None else str(said) for said in house.said]))
                self.same(desk.say("steps"), str(len(bench)))
                self.same(desk.say(f"next {number}"), "-" if house.next(number) is None else house.next(number)[0])
                self.same(desk.say("signs"), " ; ".join([f"{hand} {count} {how}" for hand, count, how in bench.signs()]) or "none")
                if bench.players is not None:
                    self.same(desk.say("held"), " ".join([str(hand) for hand, lot in enumerate(held(house)) if lot]) or "none")
                self.equal(desk.bench, bench)


if __name__ == "__main__":
    unittest.main()
