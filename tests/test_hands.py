"""Point 4: what a hand does by a program."""

import unittest

from fewplaymany.errors import BadProgram, Wide
from fewplaymany.programs import Program
from helpers import Case, LEAST, ROUNDS, text_of
from plain import conduct, Maker, most_steps, tree_of


def entered(*lines, hands=3, number=1, word=7):
    """A hand that begins with a program of these lines."""
    return Program(text_of(*lines, hands=hands)).enter(number, word)


class Reckoning(Case):
    def worth(self, wanted, term, *ahead):
        """The VALUE of an E is this one, in lines of a program, too."""
        self.same(entered(*ahead, f"write {term}", "say 0").due, ("write", wanted), term)
        self.same(entered(*ahead, f"keep k {term}", "write row 2 k k", "say 0").due, ("write", (wanted, wanted)), term)

    def holds(self, wanted, test, *ahead):
        """Whether a C holds."""
        self.same(entered(*ahead, f"if {test}", "write 1", "else", "write 0", "end", "say 0").due,
                  ("write", 1 if wanted else 0), test)

    def test_plain_terms(self):
        for number in (0, 1, -1, 99, -99, 42):
            self.worth(number, str(number))
        self.worth(None, "none")
        self.worth(7, "mine")
        self.worth(1, "me")
        self.worth(3, "many")

    def test_names(self):
        self.worth(None, "unheard")
        self.worth(5, "a", "keep a 5")
        self.worth(6, "a", "keep a 5", "keep a plus a 1")
        self.worth(None, "a", "keep a 5", "keep a none")
        self.worth(5, "b", "keep a 5", "keep b a", "keep a 6")

    def test_row(self):
        self.worth((), "row 0")
        self.worth((5,), "row 1 5")
        self.worth((1, 2, 3, 4, 5, 6), "row 6 1 2 3 4 5 6")
        self.worth(((), (1, None), 7), "row 3 row 0 row 2 1 none mine")

    def test_part(self):
        self.worth(7, "part row 2 5 7 1")
        self.worth(5, "part row 2 5 7 0")
        self.worth(None, "part row 2 5 7 2")
        self.worth(None, "part row 2 5 7 -1")
        self.worth(None, "part row 2 5 7 none")
        self.worth(None, "part row 2 5 7 row 1 0")
        self.worth(None, "part 5 0")
        self.worth(None, "part none 0")
        self.worth(None, "part row 0 0")
        self.worth(9, "part part row 2 1 row 2 8 9 1 1")

    def test_least_and_greatest(self):
        self.worth(-3, "least row 3 4 row 2 none -3 5")
        self.worth(5, "greatest row 3 4 row 2 none -3 5")
        for kind in ("least", "greatest"):
            self.worth(8, f"{kind} 8")
            self.worth(0, f"{kind} row 2 none 0")
            for term in ("none", "row 0", "row 2 none row 1 none"):
                self.worth(None, f"{kind} {term}")

    def test_lot(self):
        self.worth((-3, 4, 5), "lot row 4 5 row 2 none -3 5 4")
        self.worth((8,), "lot 8")
        self.worth((), "lot none")
        self.worth((), "lot row 1 row 0")

    def test_count(self):
        self.worth(2, "count row 4 none 5 none row 1 none")
        self.worth(0, "count row 2 none none")
        for term in ("row 0", "none", "5"):
            self.worth(0, f"count {term}")

    def test_plus(self):
        self.worth(5, "plus 2 3")
        self.worth(-4, "plus -9 5")
        for term in ("plus 1 none", "plus none 1", "plus row 0 1", "plus 1 row 1 1", "plus none none"):
            self.worth(None, term)
        self.worth(9999, "a", "keep a 99", *["keep a plus a a"] * 8)
        self.worth(-9999, "a", "keep a -99", *["keep a plus a a"] * 8)
        self.worth(9998, "plus a -1", "keep a 99", *["keep a plus a a"] * 8)
        self.worth(9999, "plus a 1", "keep a 99", *["keep a plus a a"] * 8)

    def test_half(self):
        for number, wanted in ((0, 0), (1, 0), (2, 1), (5, 2), (-1, -1), (-2, -1), (-5, -3), (99, 49)):
            self.worth(wanted, f"half {number}")
        self.worth(None, "half none")
        self.worth(None, "half row 1 4")

    def test_same(self):
        for test in ("same 1 1", "same none none", "same row 0 row 0", "same row 2 1 none row 2 1 none", "same a none"):
            self.holds(True, test)
        for test in ("same 1 2", "same 0 none", "same 1 row 1 1", "same row 1 1 row 2 1 1", "same row 0 none", "same none 0"):
            self.holds(False, test)

    def test_less(self):
        for test in ("less 1 2", "less -1 0", "less -99 99"):
            self.holds(True, test)
        for test in ("less 2 1", "less 1 1", "less none 1", "less 1 none", "less row 0 1", "less 1 row 1 2", "less none none",
                     "less row 1 1 row 1 2"):
            self.holds(False, test)

    def test_has(self):
        for test in ("has 1 1", "has row 2 1 2 2", "has row 2 none row 1 -5 -5", "has row 1 0 0"):
            self.holds(True, test)
        for test in ("has 1 2", "has none 1", "has row 1 none none", "has none none", "has row 1 row 0 row 0", "has 1 row 1 1",
                     "has row 0 0", "has row 1 none 0"):
            self.holds(False, test)

    def test_joined_tests(self):
        yes, no = "same 1 1", "same 1 2"
        self.holds(False, f"not {yes}")
        self.holds(True, f"not {no}")
        for one in (True, False):
            for other in (True, False):
                words = f"{yes if one else no} {yes if other else no}"
                self.holds(one and other, f"and {words}")
                self.holds(one or other, f"or {words}")
        self.holds(True, f"and or {no} {yes} not and {yes} {no}")

    def test_what_is_said_is_a_word(self):
        for term, word in (("0", 0), ("99", 99), ("5", 5), ("-1", 0), ("plus 99 1", 0), ("none", 0), ("row 1 5", 0), ("mine", 7)):
            self.same(entered(f"say {term}").due, ("say", word))
            self.same(entered(f"ask 1 {term} a", "say 0").due, ("ask", 1, word))


class Widths(Case):
    """VALUES of more than 200 things are taken as None."""

    def test_looks(self):
        for line in ("look s", "wait s same 1 1"):
            for things, wanted in ((200, True), (201, False)):
                hand = entered(line, "if same s none", "say 1", "end", "say 2")
                seen = ((1,) * (things - 4), None, None)
                hand.step(seen)
                self.same(hand.due, ("say", 2 if wanted else 1))
                self.same(hand.run, [(1, "look", seen)])

    def test_waits_see_none(self):
        hand = entered("wait s same s none", "say 5")
        hand.step((1, None, None))
        self.same(hand.due, ("look",))
        hand.step(((1,) * 300, None, None))
        self.same(hand.due, ("say", 5))

    def seen(self, things, *lines):
        """A hand that has looked, and keeps s of so many things."""
        hand = entered("look s", *lines)
        hand.step(((1,) * (things - 4), None, None))
        return hand

    def test_keeps(self):
        self.same(self.seen(199, "keep a row 1 s", "say count a").due, ("say", 1))
        self.same(self.seen(200, "keep a row 1 s", "say count a").due, ("say", 0))

    def test_writes(self):
        seen = ((1,) * 195, None, None)
        self.same(self.seen(199, "write row 1 s", "say 0").due, ("write", (seen,)))
        self.same(self.seen(200, "write row 1 s", "say 0").due, ("write", None))

    def test_not_amid_reckoning(self):
        self.same(self.seen(200, "say count row 3 s s s").due, ("say", 3))
        self.same(self.seen(200, "keep a least row 6 s s s s s s", "say a").due, ("say", 1))
        self.same(self.seen(200, "if same row 2 s s row 2 s s", "say 1", "end", "say 2").due, ("say", 1))

    def test_things_are_counted_through(self):
        deep = ["keep a none"] + ["keep a row 1 a"] * 5
        self.same(entered(*deep, "write a", "say 0").due, ("write", (((((None,),),),),)))
        lines = ["keep a 1", "again 9", "again 9", "again 2", "keep a row 1 a", "end", "end", "end"]
        deep = entered(*lines, *["keep a row 1 a"] * 37, "write a", "say 0").due[1]
        count = 0
        while isinstance(deep, tuple):
            deep = deep[0]
            count += 1
        self.same((deep, count), (1, 199))
        self.same(entered(*lines, *["keep a row 1 a"] * 38, "write a", "say 0").due, ("write", None))


class Conduct(Case):
    def test_examples(self):
        hand = Program(LEAST).enter(0, 5)
        self.same([hand.due, hand.step(), hand.due, hand.step((5, None)), hand.due, hand.said],
                  [("write", 5), (0, "write", 5), ("look",), (0, "look", (5, None)), ("say", 5), None])
        self.same([hand.step(), hand.due, hand.said], [(0, "say", 5), None, 5])
        self.same(hand.run, [(0, "write", 5), (0, "look", (5, None)), (0, "say", 5)])
        first, last = Program(ROUNDS).enter(0, 1), Program(ROUNDS).enter(2, 9)
        self.same([last.step(), last.step((None, None, (2, 9))), last.step()],
                  [(2, "write", (2, 9)), (2, "look", (None, None, (2, 9))), (2, "say", 9)])
        first.step()
        first.step(((0, 1), (1, 2), (2, 9)))
        self.same(first.step(), (0, "write", (0, 9)))
        first.step(((0, 9), (1, 2), (2, 9)))
        self.same(first.due, ("say", 9))

    def test_waits_look_until_it_holds(self):
        hand = entered("wait s less 1 count s", "say count s")
        for seen in ((None, None, None), (1, None, None), (None, None, 2)):
            self.same(hand.due, ("look",))
            self.same(hand.step(seen), (1, "look", seen))
        self.same(hand.due, ("look",))
        hand.step((1, None, 2))
        self.same(hand.due, ("say", 2))
        self.same(len(hand.run), 4)

    def test_a_wait_looks_once_at_least(self):
        hand = entered("wait s same 1 1", "say 3")
        self.same(hand.due, ("look",))
        hand.step((None, None, None))
        self.same(hand.due, ("say", 3))

    def test_again(self):
        hand = entered("keep a 0", "again 3", "keep a plus a 1", "write a", "end", "say a")
        self.same([hand.step()[2] for _ in range(3)], [1, 2, 3])
        self.same(hand.due, ("say", 3))
        hand = entered("keep a 0", "again 3", "again 2", "keep a plus a 1", "end", "again 4", "end", "write a", "end", "say a")
        self.same([hand.step()[2] for _ in range(3)], [2, 4, 6])
        self.same(entered("keep a 0", *["again 9"] * 2, "keep a plus a 1", *["end"] * 2, "say a").due, ("say", 81))
        self.same(entered("again 1", "keep a 5", "end", "say a").due, ("say", 5))

    def test_a_say_in_a_block_is_the_last_step(self):
        hand = entered("again 5", "write 1", "if same a 1", "say 4", "end", "keep a 1", "end", "say 5")
        self.same([hand.step()[1:] for _ in range(3)], [("write", 1), ("write", 1), ("say", 4)])
        self.same([hand.due, hand.said], [None, 4])

    def test_if(self):
        for word, wanted in ((1, 11), (2, 22), (3, 33)):
            lines = ["if same mine 1", "keep a 11", "else", "if same mine 2", "keep a 22", "end", "end",
                     "if same a none", "keep a 33", "end", "say a"]
            self.same(entered(*lines, word=word).due, ("say", wanted))
        self.same(entered("if same 1 1", "else", "say 1", "end", "say 2").due, ("say", 2))
        self.same(entered("if same 1 2", "say 1", "else", "end", "say 2").due, ("say", 2))

    def test_ask(self):
        hand = entered("ask 2 plus mine 1 got", "write got", "say 0")
        self.same([hand.due, hand.step(), hand.due, hand.step(40), hand.due],
                  [("ask", 2, 8), (1, "ask", (2, 8)), ("answer", 2), (1, "answer", (2, 40)), ("write", 40)])

    def test_hands_stand_by_themselves(self):
        program = Program(LEAST)
        one, other = program.enter(0, 3), program.enter(1, 4)
        one.step()
        one.step((3, None))
        self.same([one.due, other.due, other.run, program.enter(0, 3).due], [("say", 3), ("write", 4), [], ("write", 3)])

    def test_against_the_plainest_telling(self):
        maker = Maker(4)
        done, says = 0, 0
        for _ in range(1500):
            text = maker.program()
            try:
                program = Program(text)
            except (Wide, BadProgram):
                self.assertTrue(text.count("\n") > 60 or most_steps(text) > 200, text)
                continue
            self.same(program.steps, most_steps(text), text)
            number, word = maker.any.randrange(program.many), maker.any.randint(0, 99)
            hand = program.enter(number, word)
            plain = conduct(tree_of(text), {"mine": word, "me": number, "many": program.many})
            due = next(plain)
            for _ in range(250):
                self.same(hand.due, due, text)
                told = None
                if due[0] == "look":
                    told = tuple([maker.value(maker.any.choice([1, 1, 2, 3])) for _ in range(program.many)])
                elif due[0] == "answer":
                    told = maker.any.randint(0, 99)
                hand.step(told)
                done += 1
                if due[0] == "say":
                    says += 1
                    self.same((hand.due, hand.said), (None, due[1]))
                    break
                due = plain.send(told)
            if not program.waits:
                self.assertIsNotNone(hand.said)
                self.assertLessEqual(len(hand.run), program.steps)
        self.assertGreater(done, 4000)
        self.assertGreater(says, 1000)


if __name__ == "__main__":
    unittest.main()
