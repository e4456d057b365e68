"""Point 4: which texts are programs, and what is told of them."""

import unittest
import unittest.mock

from fewplaymany.errors import BadProgram, Wide
from fewplaymany.programs import Program
from helpers import Case, LEAST, ROUNDS, some_values, text_of

RESERVED = (
    "hands keep write look wait if else end again ask say none mine me many row part least greatest lot count "
    "plus half same less has not and or"
).split(" ")

# For each kind of line: right ones, and wrong ones.
LINES = {
    "keep": (
        ["keep a 1", "keep a1b2c3d4 mine", "keep a a", "keep z9 row 2 1 part a 0"],
        ["keep", "keep a", "keep 1 a", "keep A 1", "keep a 1 2", "keep a less 1 2", "keep a same 1 1", "keep mine 1",
         "keep  a 1", "keep a  1", " keep a 1", "keep a 1 ", "Keep a 1", "keep a\t1", "keeps a 1", "keep a b c"],
    ),
    "write": (
        ["write mine", "write none", "write row 0", "write unheard"],
        ["write", "write ", "write 1 2", "write has 1 2", "write not 1", "write  1", "write 1 ", "write X", "writes 1"],
    ),
    "look": (
        ["look seen", "look a2345678"],
        ["look", "look ", "look 1", "look a b", "look many", "look a234567890", "look  a", "look a ", "look S", "look -"],
    ),
    "wait": (
        ["wait s same 1 1", "wait s less 1 count s", "wait s not has s 3"],
        ["wait", "wait s", "wait s 1", "wait s s", "wait same 1 1", "wait 1 same 1 1", "wait s same 1", "wait wait same 1 1",
         "wait s same 1 1 1", "wait s  same 1 1", "wait s same 1 1 "],
    ),
    "ask": (
        ["ask 0 mine got", "ask 2 plus 1 2 got", "ask 1 row 2 1 2 g"],
        ["ask", "ask 0", "ask 0 mine", "ask mine got", "ask 3 mine got", "ask -1 mine got", "ask 00 mine got", "ask 0 got",
         "ask 0 mine got got", "ask 0 mine 1", "ask 0 mine none", "ask a mine got", "ask 0 less 1 2 got", "ask 0  mine got",
         "ask 0 mine Got", "ask 0 mine got ", "ask +1 mine got", "ask 0 plus 1 got"],
    ),
}

# For each E: right ones, and wrong ones.
TERMS = {
    "integer": (["0", "1", "-1", "99", "-99", "10"],
                ["-100", "100", "01", "-0", "+1", "1.0", "1e1", "--1", "-", "- 1", "1000000000", "1_0", "0x1", "-01", "00"]),
    "none": (["none"], ["None", "none none", "NONE"]),
    "given": (["mine", "me", "many"], ["Mine", "mine mine", "me 1", "many none"]),
    "name": (["a", "abcdefgh", "a1234567", "z", "e", "nones", "row1", "rows"],
             ["abcdefghi", "1a", "Ab", "aB", "a_b", "a-b", "_a", "a.", "'a'", "a b"]),
    "row": (["row 0", "row 1 5", "row 6 1 2 3 4 5 6", "row 2 row 0 row 1 1", "row 3 none mine a"],
            ["row", "row 7 1 2 3 4 5 6 7", "row -1", "row 0 1", "row 1", "row 2 1", "row a", "row 01 1", "row mine 1", "row none",
             "row 1 same 1 1", "row 6 1 2 3 4 5", "row 1 1 1", "row row 1 1"]),
    "part": (["part row 2 5 7 1", "part a 0", "part 1 2"], ["part", "part a", "part a 0 0", "part a less 1 2", "part not a 1"]),
    "least": (["least a", "least 5"], ["least", "least a b", "least same 1 1"]),
    "greatest": (["greatest a", "greatest row 0"], ["greatest", "greatest a b", "greates a"]),
    "lot": (["lot a", "lot lot 1"], ["lot", "lot 1 2", "lot or same 1 1 same 1 1"]),
    "count": (["count a", "count none"], ["count", "count a a"]),
    "plus": (["plus 1 2", "plus plus 1 2 plus 3 4"], ["plus", "plus 1", "plus 1 2 3", "plus 1 less 1 2"]),
    "half": (["half 3", "half mine"], ["half", "half 1 2", "half has 1 1"]),
}

# For each C: right ones, and wrong ones.
TESTS = {
    "same": (["same 1 1", "same a row 0"], ["same", "same 1", "same 1 1 1", "same same 1 1 1", "Same 1 1"]),
    "less": (["less 1 2", "less mine a"], ["less", "less 1", "less 1 2 3", "less not same 1 1 1"]),
    "has": (["has a 1", "has 1 1"], ["has", "has a", "has a 1 1", "has less 1 2 1"]),
    "not": (["not same 1 1", "not not has a 1"], ["not", "not 1", "not a", "not same 1", "not same 1 1 1", "not none"]),
    "and": (["and same 1 1 less 1 2", "and not has a 1 or same 1 1 same 2 2"],
            ["and", "and same 1 1", "and 1 same 1 1", "and same 1 1 1", "and same 1 1 same 1 1 same 1 1"]),
    "or": (["or same 1 1 less 1 2"], ["or", "or same 1 1", "or a b", "or less 1 2 less 3", "or same 1 1 has a 1 has a 1"]),
    "no C": ([], ["1", "mine", "a", "none", "row 0", "plus 1 2", ""]),
}


class Programs(Case):
    def right(self, *lines):
        """The Program of these lines behind the first."""
        text = text_of(*lines)
        program = Program(text)
        self.same(program.text, text)
        return program

    def wrong(self, number, *lines):
        """These lines behind the first are none of a program, because of this one."""
        self.refuses(BadProgram, number, Program, text_of(*lines))

    def test_examples(self):
        least = Program(LEAST)
        self.same([least.many, least.boxes, least.steps, least.waits], [2, 0, 3, False])
        self.same(Program(ROUNDS).steps, 5)
        self.same(Program("hands 2\nask 0 mine got\nwrite got\nlook seen\nsay least seen").boxes, 1)

    def test_no_string(self):
        for value in some_values() + [b"hands 1\nsay 0"]:
            if not isinstance(value, str):
                self.refuses(BadProgram, 0, Program, value)

    def test_argument_by_name(self):
        self.same(Program(text=LEAST).text, LEAST)

    def test_first_line(self):
        for many in (1, 2, 3, 4, 5, 6):
            self.same(Program(f"hands {many}\nsay 0").many, many)
        wrong = ("hands 0", "hands 7", "hands -1", "hands", "hands ", "hands 02", "hands +2", "hands 2 ", " hands 2",
                 "hands  2", "Hands 2", "hand 2", "hands two", "hands 2 2", "2", "", "say 0", "hands 10", "hands a")
        for line in wrong:
            self.refuses(BadProgram, 1, Program, line)
            self.refuses(BadProgram, 1, Program, line + "\nsay 0")
            self.refuses(BadProgram, 1, Program, line + "\nno line")

    def test_lines(self):
        for kind in LINES:
            right, wrong = LINES[kind]
            for line in right:
                self.right(line, "say 0")
                self.right("if same 1 1", line, "end", "say 0")
            for line in wrong:
                self.wrong(2, line, "say 0")
                self.wrong(3, "look a", line, "no line", "say 0")
                self.wrong(4, "again 2", "keep a 1", line, "end", "say 0")

    def test_say(self):
        for line in ("say 0", "say none", "say plus 1 mine"):
            self.right(line)
        for line in ("say", "say ", "say 1 2", "say same 1 1", "say  1", "say 1 ", " say 1", "Say 1", "say A"):
            self.wrong(2, line)
            self.wrong(3, "look a", line)

    def test_terms(self):
        for kind in TERMS:
            right, wrong = TERMS[kind]
            for term in right:
                for line in (f"keep k {term}", f"write {term}", f"ask 1 {term} k", f"keep k count plus 1 {term}"):
                    self.right(line, "say 0")
                self.right(f"say {term}")
            for term in wrong:
                for line in (f"keep k {term}", f"write {term}", f"say {term}", f"ask 1 {term} k", f"keep k count row 1 {term}"):
                    self.wrong(3, "look a", line, "say 0")

    def test_conditions(self):
        for kind in TESTS:
            right, wrong = TESTS[kind]
            for test in right:
                self.right(f"wait s {test}", "say 0")
                self.right(f"if {test}", "end", "say 0")
                self.right(f"if not {test}", "else", "end", "say 0")
            for test in wrong:
                self.wrong(3, "look a", f"wait s {test}", "say 0")
                self.wrong(2, f"if {test}", "end", "say 0")
                self.wrong(2, f"if or {test} same 1 1", "end", "say 0")

    def test_deep_terms(self):
        self.right("say " + "half " * 59 + "1")
        self.right("if " + "not " * 59 + "same 1 1", "end", "say 0")
        self.wrong(2, "say " + "half " * 59)
        self.right("say " + "half " * 1700 + "1")

    def test_great_integers(self):
        for figures in (9, 10, 300, 5000):
            self.wrong(3, "look a", "say " + "9" * figures)
            self.wrong(2, "again -" + "9" * figures, "end", "say 0")

    def test_reserved_words_are_no_names(self):
        for word in RESERVED:
            self.wrong(2, f"keep {word} 1", "say 0")
            self.wrong(2, f"look {word}", "say 0")
            self.wrong(2, f"wait {word} same 1 1", "say 0")
            self.wrong(2, f"ask 0 1 {word}", "say 0")
            self.right(f"keep {word[:7]}1 1", f"say {word[:7]}1")
        for word in RESERVED:
            if word not in ("none", "mine", "me", "many"):
                self.wrong(2, f"write {word}", "say 0")

    def test_names(self):
        for name in ("a", "abcdefgh", "a2345678", "z0", "e", "c", "k"):
            self.right(f"look {name}", f"say {name}")
        for name in ("abcdefghi", "a23456789", "1a", "9", "A", "aA", "a_", "a-b", "", "a b", "'a'"):
            self.wrong(2, f"look {name}", "say 0")
            self.wrong(2, f"keep {name} 1", "say 0")

    def test_again(self):
        for times in (1, 2, 9):
            self.right(f"again {times}", "end", "say 0")
        for line in ("again 0", "again 10", "again", "again ", "again -1", "again 01", "again +1", "again mine",
                     "again 1 1", "again  1", "again 1 ", "again one"):
            self.wrong(2, line, "end", "say 0")
            self.wrong(3, "look a", line, "end", "say 0")

    def test_else_and_end(self):
        self.right("if same 1 1", "else", "end", "say 0")
        self.wrong(2, "else", "say 0")
        self.wrong(2, "end", "say 0")
        self.wrong(4, "if same 1 1", "else", "else", "end", "say 0")
        self.wrong(3, "again 2", "else", "end", "say 0")
        self.wrong(4, "if same 1 1", "again 2", "else", "end", "end", "say 0")
        self.wrong(4, "if same 1 1", "end", "else", "say 0")
        self.wrong(4, "if same 1 1", "end", "end", "say 0")
        self.right("if same 1 1", "if same 1 1", "else", "end", "else", "end", "say 0")
        for line in ("else ", " else", "else 1", "Else", "elses", "else  "):
            self.wrong(3, "if same 1 1", line, "end", "say 0")
        for line in ("end ", " end", "end 1", "End", "ends", "end end"):
            self.wrong(3, "if same 1 1", line, "end", "say 0")

    def test_blocks_not_ended(self):
        self.wrong(4, "if same 1 1", "say 0")
        self.wrong(4, "again 2", "say 0")
        self.wrong(5, "if same 1 1", "else", "say 0")
        self.wrong(6, "again 2", "again 2", "end", "say 0")

    def test_deep_blocks(self):
        for head in ("if same 1 1", "again 2"):
            self.right(*[head] * 4, *["end"] * 4, "say 0")
            self.wrong(6, *[head] * 5, *["end"] * 5, "say 0")
            self.wrong(7, *[head] * 4, "look a", head, *["end"] * 5, "say 0")
            self.right(*[head] * 4, "end", head, *["end"] * 4, "say 0")
        self.wrong(10, *["if same 1 1", "else"] * 4, "again 1", *["end"] * 5, "say 0")
        self.right(*["if same 1 1", "else"] * 4, *["end"] * 4, "say 0")

    def test_behind_a_say(self):
        self.wrong(3, "say 0", "say 0")
        self.wrong(3, "say 0", "look a")
        self.wrong(3, "say 0", "end")
        self.wrong(3, "say 0", "else")
        self.wrong(3, "say 0", "")
        self.right("if same 1 1", "say 0", "end", "say 1")
        self.right("if same 1 1", "say 0", "else", "say 1", "end", "say 2")
        self.right("again 3", "say 0", "end", "say 1")
        for line in ("look a", "say 0", "keep a 1", "if same 1 1", "again 2", "", "write 1"):
            self.wrong(4, "if same 1 1", "say 0", line, "end", "say 1")
            self.wrong(5, "if same 1 1", "else", "say 0", line, "end", "say 1")
            self.wrong(4, "again 3", "say 0", line, "end", "say 1")
        self.wrong(4, "again 3", "say 0", "else", "end", "say 1")
        self.wrong(5, "if same 1 1", "else", "say 0", "else", "end", "say 1")

    def test_last_line(self):
        self.wrong(3, "look a")
        self.wrong(5, "if same 1 1", "say 0", "end")
        self.wrong(7, "if same 1 1", "say 0", "else", "say 1", "end")
        self.wrong(4, "look a", "write 1")

    def test_blanks_and_line_feeds(self):
        self.refuses(BadProgram, 1, Program, "")
        self.refuses(BadProgram, 1, Program, "\n" + LEAST)
        self.refuses(BadProgram, 5, Program, LEAST + "\n")
        self.refuses(BadProgram, 2, Program, LEAST.replace("\n", "\n\n", 1))
        self.refuses(BadProgram, 2, Program, LEAST.replace("write mine", "write  mine"))
        self.refuses(BadProgram, 3, Program, LEAST.replace("look seen", "look seen "))
        self.refuses(BadProgram, 4, Program, LEAST.replace("say", " say"))
        self.refuses(BadProgram, 1, Program, LEAST.replace("\n", " "))

    def test_how_many_lines(self):
        self.refuses(BadProgram, 2, Program, "hands 2")
        self.right("say 0")
        self.right(*["keep a 1"] * 59, "say 0")
        self.wrong(62, *["keep a 1"] * 60)
        self.wrong(62, *["keep a 1"] * 60, "say 0")
        self.wrong(62, *["keep a 1"] * 60, "no line")
        self.wrong(61, *["keep a 1"] * 59)
        self.wrong(62, "again 2", *["keep a 1"] * 58, "say 0")
        self.wrong(62, "again 2", *["keep a 1"] * 58, "end", "say 0")
        self.wrong(61, *["keep a 1"] * 59, "no line", "say 0")
        self.wrong(62, *["keep a 1"] * 59, "say 0", "say 0")

    def test_first_wrong_line_is_told(self):
        self.wrong(3, "look a", "look 1", "look 2", "again 0")
        self.wrong(2, "nothing", "nothing")

    def test_boxes(self):
        self.same(self.right("say 0").boxes, 0)
        self.same(self.right("ask 0 1 a", "say 0").boxes, 1)
        self.same(self.right("ask 2 1 a", "say 0").boxes, 3)
        self.same(self.right("ask 1 1 a", "ask 0 1 a", "say 0").boxes, 2)
        self.same(self.right("if same 1 1", "say 0", "else", "say 1", "end", "ask 2 1 a", "say 0").boxes, 3)

    def test_waits(self):
        self.same(self.right("look a", "say 0").waits, False)
        self.same(self.right("wait a same 1 1", "look a", "say 0").waits, True)
        self.same(self.right("if same 1 2", "wait a same 1 1", "end", "say 0").waits, True)

    def test_equality(self):
        self.assertTrue(Program(LEAST) == Program(LEAST))
        self.assertFalse(Program(LEAST) != Program(LEAST))
        other = LEAST.replace("seen", "saw")
        self.assertFalse(Program(LEAST) == Program(other))
        self.assertTrue(Program(LEAST) != Program(other))
        for value in some_values() + [LEAST, (LEAST,)]:
            self.assertFalse(Program(LEAST) == value)
            self.assertFalse(value == Program(LEAST))
            self.assertTrue(Program(LEAST) != value)

    def test_equal_to_nothing_that_claims_to_be(self):
        self.assertFalse(Program(LEAST) == unittest.mock.ANY)

    def test_operators_that_are_not_told(self):
        program = Program(LEAST)
        for call in (lambda: program < program, lambda: program + program, lambda: program[0], lambda: 1 in program,
                     lambda: len(program), lambda: -program, lambda: program * 2, lambda: list(program),
                     lambda: program >= 1, lambda: 1 + program, lambda: "hands" in program):
            self.assertRaises(TypeError, call)


class Widths(Case):
    def steps(self, *lines):
        return Program(text_of(*lines)).steps

    def test_steps_of_lines(self):
        self.same(self.steps("say 0"), 1)
        self.same(self.steps("keep a 1", "say 0"), 1)
        self.same(self.steps("write 1", "say 0"), 2)
        self.same(self.steps("look a", "say 0"), 2)
        self.same(self.steps("wait a same 1 2", "say 0"), 2)
        self.same(self.steps("ask 0 1 a", "say 0"), 3)

    def test_the_longer_way_counts(self):
        self.same(self.steps("if same 1 2", "look a", "look a", "else", "look a", "end", "say 0"), 3)
        self.same(self.steps("if same 1 1", "look a", "else", "look a", "look a", "end", "say 0"), 3)
        self.same(self.steps("if same 1 2", "look a", "end", "say 0"), 2)
        self.same(self.steps("if same 1 1", "else", "look a", "end", "say 0"), 2)
        self.same(self.steps("if same 1 1", "say 0", "else", "look a", "end", "say 0"), 2)
        self.same(self.steps("if same 1 1", *["look a"] * 5, "say 0", "end", "look a", "say 0"), 6)

    def test_again_counts_as_often_as_told(self):
        self.same(self.steps("again 3", "look a", "end", "say 0"), 4)
        self.same(self.steps("again 3", "again 4", "look a", "end", "write 1", "end", "say 0"), 16)
        self.same(self.steps("again 9", "end", "say 0"), 1)

    def test_a_way_ends_at_a_say(self):
        self.same(self.steps("again 3", "look a", "say 0", "end", "look a", "look a", "say 0"), 2)
        # Two rounds through, then the longer end in the third one.
        self.same(self.steps("again 3", "look a", "if same 1 1", *["look a"] * 7, "say 0", "end", "end", "say 0"), 11)
        self.same(self.steps("again 2", "again 2", "look a", "if same 1 1", "look b", "look b", "say 0", "end", "end",
                             "write 1", "end", "say 0"), 8)

    def test_lines_that_no_way_comes_to_count_nothing(self):
        self.same(self.steps("if same 1 1", "say 0", "else", "say 1", "end", *["look a"] * 40, "say 0"), 1)
        self.same(self.steps("again 2", "if same 1 1", "say 0", "else", "look a", "say 1", "end", *["look a"] * 9, "end",
                             *["look a"] * 9, "say 0"), 2)
        self.same(self.steps("again 9", "say 0", "end", "again 9", "again 9", "again 9", "look a", "end", "end", "end",
                             "say 0"), 1)

    def test_two_hundred_and_one_more(self):
        lines = ["again 9", "again 9", "look a", "look a", "end", "end"]
        self.same(self.steps(*lines, *["look a"] * 37, "say 0"), 200)
        self.refuses(Wide, 200, Program, text_of(*lines, *["look a"] * 38, "say 0"))
        self.refuses(Wide, 200, Program, text_of(*["again 9"] * 4, "look a", *["end"] * 4, "say 0"))
        self.same(self.steps(*lines, *["look a"] * 35, "ask 0 1 a", "say 0"), 200)
        self.refuses(Wide, 200, Program, text_of(*lines, *["look a"] * 36, "ask 0 1 a", "say 0"))

    def test_bad_programs_come_ahead_of_wide_ones(self):
        lines = ["again 9", "again 9", "again 9", "look a", "end", "end", "end"]
        self.refuses(BadProgram, 9, Program, text_of(*lines, "no line"))
        self.refuses(BadProgram, 9, Program, text_of(*lines))
        self.refuses(Wide, 200, Program, text_of(*lines, "say 0"))


if __name__ == "__main__":
    unittest.main()
