"""Point 17, of journals."""

import random
import unittest

from fewplaymany.benches import Bench
from fewplaymany.errors import BadJournal, HandError
from fewplaymany.journals import journal, read_journal
from helpers import ASKING, Case, LEAST, PAIR, ROUNDS, some_values, text_of
from test_benches import call, some_deed, state

WIDE = "hands 1\nagain 9\nagain 9\nagain 9\nlook s\nend\nend\nend\nsay 0"


class Journals(Case):
    def test_every_kind_of_deed(self):
        bench = Bench(PAIR, (3, None), 2)
        for deed in (("step", 0), ("weave", 0, 1, 0), ("weave",), ("stop", 1), ("go", 1), ("watch", 1), ("forget", 0), ("unwatch", 1)):
            call(bench, *deed)
        wanted = PAIR + "\nwords 3 -\nplayed 2\ndeeds\nstep 0\nweave 0 1 0\nweave\nstop 1\ngo 1\nwatch 1\nforget 0\nunwatch 1"
        self.same([journal(bench), journal(bench=bench)], [wanted, wanted])
        self.equal(read_journal(wanted), bench)
        self.same(state(read_journal(text=wanted)), state(bench))

    def test_no_deeds(self):
        self.same(journal(Bench("hands 1\nsay 0", (None,))), "hands 1\nsay 0\nwords -\nplain\ndeeds")
        self.same(journal(read_journal("hands 1\nsay 0\nwords 99\nplayed 4\ndeeds".replace("99", "99 0 - 7"))), "hands 1\nsay 0\nwords 99 0 - 7\nplayed 4\ndeeds")

    def test_what_was_taken_back_is_not_told(self):
        bench = Bench(PAIR, (3, 7))
        bench.step(0)
        bench.step(1)
        bench.undo()
        self.same(journal(bench).split("\n")[-1], "step 0")
        with bench.block():
            bench.step(1)
        self.same(journal(bench).split("\n")[-1], "step 0")

    def test_there_and_back(self):
        for seed in range(80):
            any_of = random.Random(seed)
            text = any_of.choice((PAIR, LEAST, ROUNDS))
            hands = int(text[6])
            players = any_of.choice((None, 1, 2, 3, 4))
            many = hands if players is None else players
            bench = Bench(text, tuple([any_of.choice((None, 0, 99, 5)) for _ in range(many)]), players)
            for _ in range(20):
                word, numbers = some_deed(any_of, many, hands)
                try:
                    call(bench, word, *numbers)
                except HandError:
                    pass
            again = read_journal(journal(bench))
            self.equal(again, bench)
            self.same([state(again), journal(again)], [state(bench), journal(bench)])
            self.refuses(BadJournal, len(journal(bench).split("\n")) + 1, read_journal, journal(bench) + "\nstep 9")


class Wrong(Case):
    def wrong(self, number, *lines):
        self.refuses(BadJournal, number, read_journal, "\n".join(lines))
        self.refuses(BadJournal, number, read_journal, text="\n".join(lines))

    def head(self, program=PAIR, words="words 3 7", players="plain"):
        return program.split("\n") + [words, players, "deeds"]

    def test_no_string(self):
        for value in some_values() + [b"deeds", Bench(PAIR, (3, 7))]:
            if not isinstance(value, str):
                self.refuses(BadJournal, 0, read_journal, value)

    def test_no_line_of_deeds(self):
        self.wrong(2, "")
        self.wrong(7, *PAIR.split("\n"), "words 3 7", "plain")
        self.wrong(8, *PAIR.split("\n"), "words 3 7", "plain", "deed")
        self.wrong(8, "nonsense", *PAIR.split("\n"), "words 3 7", "plain")
        self.wrong(5, "Deeds", "deeds ", " deeds", "deeds 0")
        self.wrong(8, *self.head()[:-1], "deeds ")

    def test_fewer_than_three_lines_ahead(self):
        self.wrong(1, "deeds")
        self.wrong(1, "deeds", *self.head())
        self.wrong(2, "nonsense", "deeds")
        self.wrong(3, "words 3 7", "plain", "deeds", "step 0")
        self.wrong(1, "", "", "", "deeds")

    def test_what_bad_program_tells(self):
        for number, program in ((1, "hand 2\nsay 0"), (1, ""), (2, "hands 2\nsay"), (3, "hands 2\nsay 0\nsay 0"), (3, "hands 2\nwrite 0"),
                                (4, "hands 2\nif same 0 0\nsay 1"), (2, "hands 2"), (62, "hands 2" + "\nwrite 1" * 61), (62, "hands 2" + "\nwrite 1" * 60)):
            self.wrong(number, *self.head(program))
            # Ahead of all that is wrong with the last two lines.
            self.wrong(number, *self.head(program, "word", "play"))
            self.wrong(number, *self.head(program, "words 100", "played 9"))
        # The last two lines are those of words and of players, whatever they look like.
        self.wrong(3, *PAIR.split("\n"), "deeds")
        self.wrong(4, *PAIR.split("\n"), "words 3 7", "deeds")

    def test_wide_and_boxes(self):
        for program in (WIDE, ASKING, "hands 1\nask 0 0 a\n" + WIDE.split("\n", 1)[1]):
            behind = len(program.split("\n")) + 1
            self.wrong(behind, *self.head(program))
            self.wrong(behind, *self.head(program, "word", "play"))
            self.wrong(behind, *self.head(program, "words 1", "played 9"))

    def test_the_form_of_words_and_of_players(self):
        for words in ("word 3 7", "3 7", "words 3 07", "words 3  7", "words 3 7 ", " words 3 7", "words 3 +7", "words 3 -0", "words 3 x", "words 3 None", "",
                      "words 3 --", "words 3 7.0", "Words 3 7", "words3 7", "words 3,7", "words -03 7", "plain"):
            self.wrong(5, *self.head(words=words))
            self.wrong(5, *self.head(words=words, players="played"))
            self.wrong(5, *self.head(words=words, players="played 9"))
        for players in ("plain ", "played", "played x", "played 02", "played  2", "played 2 2", "played -", "2", "", "Plain", "plain 2", "played +2", "words 3 7", " plain"):
            self.wrong(6, *self.head(players=players))
            # Words of this form which are none of the House come behind.
            self.wrong(6, *self.head(words="words 100 7 8", players=players))

    def test_values_of_words_and_of_players(self):
        for players in ("played 0", "played 5", "played -1", "played 99999999"):
            self.wrong(6, *self.head(players=players))
            self.wrong(6, *self.head(words="words 100", players=players))
        for words in ("words 3", "words 3 7 8", "words 3 100", "words -1 7", "words 3 99999999", "words - - -", "words -"):
            self.wrong(5, *self.head(words=words))
            self.wrong(5, *self.head(words=words, players="played 2"))
        self.wrong(5, *self.head(words="words 3 7", players="played 3"))
        self.wrong(5, *self.head(words="words"))
        self.same(journal(read_journal("\n".join(self.head(words="words - 0")))), "\n".join(self.head(words="words - 0")))

    def test_lines_of_deeds(self):
        right = ["step 0", "stop 1", "weave 0 1 0", "watch 1", "weave"]
        for players in ("plain", "played 2"):
            head = self.head(players=players)
            self.same(read_journal("\n".join(head + right)).deeds, 5)
            for line in ("", " ", "step", "step ", "step 00", "step 0 0", "step x", "step -", "step 2", "step -1", "step 99999999", "Step 0", " step 0", "step 0 ",
                         "weave 2", "weave 0 -1", "weave 0  1", "weave 0 x", "weave ", "stop 1", "go 0", "watch 1", "unwatch 0", "stop 2", "watch 2", "undo", "redo", "deeds",
                         "step 1", "next 0", "said", "signs", "forget 1", "forget", "steps", "stop", "go", "go 2", "unwatch", "step 0.0", "step +0"):
                self.wrong(len(head) + 6, *head, *right, line)
                self.wrong(len(head) + 6, *head, *right, line, "nonsense")
        self.wrong(8, *self.head(), "forget 0")
        self.same(read_journal("\n".join(self.head(players="played 2") + ["forget 0"])).deeds, 1)
        # Who has said is refused a step, but not amid a weaving.
        self.wrong(9, *self.head(), "weave 0 0 0", "step 0")
        self.same(read_journal("\n".join(self.head() + ["weave 0 0 0", "weave 0 0 0"])).deeds, 2)
        self.wrong(8, *self.head(), "")


if __name__ == "__main__":
    unittest.main()
