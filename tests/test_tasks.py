"""Point 11: tasks of words; and guarantee (j) of point 3, of tasks."""

import random
import unittest
import unittest.mock
from itertools import combinations, permutations

from fewplaymany.errors import BadLot, BadPairs, BadTask, NoWords, OtherWords
from fewplaymany.programs import Program
from fewplaymany.tasks import judged_house, renamed, shows_within, Task, within
from helpers import Case, some_values

AGREE = "1 : 1\n2 : 2\n1 2 : 1 | 2"
LOOSE = "1 : 1\n2 : 2\n1 2 : 1 2"

# No lots, each near to one.
NO_LOTS = (None, 0, 1, True, "1", "", [], [1], {}, (2, 1), (1, 1), (-1,), (True,), (1, True), (0, False), (None,), ("1",),
           ((1,),), ([1],), (1, 2, 2), (1, None), Task("1 : 1"))


def alone(*words):
    """Lines on which these words stand alone."""
    return [f"{word} : {word}" for word in words]


def some_task(seed):
    """A Task made of a seed."""
    any_of = random.Random(seed)
    words = sorted(any_of.sample(range(100), any_of.randint(1, 5)))
    spoken = any_of.sample(range(100), any_of.randint(1, 6))
    lefts = [(word,) for word in words]
    more = [lot for size in (2, 3, 4) for lot in combinations(words, size)]
    lefts += any_of.sample(more, min(len(more), any_of.randint(0, 5)))
    any_of.shuffle(lefts)
    lines = []
    for left in lefts:
        ends = [sorted(any_of.sample(spoken, any_of.randint(1, min(3, len(spoken))))) for _ in range(any_of.randint(1, 3))]
        lines.append(" : ".join([text_of(left), " | ".join(map(text_of, ends))]))
    return Task("\n".join(lines))


def narrower(task, at):
    """The Task of the same left lots, each with one end alone: the first one, or the second if there is one."""
    return Task("\n".join([f"{text_of(left)} : {text_of(ends[min(at, len(ends) - 1)])}" for left, ends in task.lines]))


def text_of(lot):
    """The text of a lot."""
    return " ".join(map(str, lot))


def all_lots(words, least=0):
    """All lots of these words, of at least so many."""
    return [lot for size in range(least, len(words) + 1) for lot in combinations(words, size)]


def plainly_right(task, brought, said):
    """Whether said is right for brought, told from the lines alone."""
    return said == () or any(set(left) <= set(brought) and set(said) <= set(end) for left, ends in task.lines for end in ends)


class Texts(Case):
    def wrong(self, number, *lines):
        """These lines are none of a task, because of this one."""
        self.refuses(BadTask, number, Task, "\n".join(lines))

    def test_what_is_told_of_a_task(self):
        task = Task("3 : 0 | 1 2 | 0\n1 : 9\n1 3 : 2 9 99")
        self.same(task.text, "3 : 0 | 1 2 | 0\n1 : 9\n1 3 : 2 9 99")
        self.same(task.lines, (((3,), ((0,), (1, 2), (0,))), ((1,), ((9,),)), ((1, 3), ((2, 9, 99),))))
        self.same(task.words, (1, 3))
        self.same(task.spoken, (0, 1, 2, 9, 99))
        self.same(len(task), 3)
        self.same([len(Task(AGREE)), len(Task(text="5 : 1"))], [3, 1])

    def test_no_string(self):
        for value in some_values() + [b"1 : 1"]:
            if not isinstance(value, str):
                self.refuses(BadTask, 0, Task, value)

    def test_lines(self):
        for line in ("1 : 1", "1 : 1 2", "1 : 1 | 2", "1 : 1 2 | 2 | 1", "1 : 1 | 1", "1 : 0", "1 : 99", "1 : 9 10 11"):
            Task(line)
        wrong = ("", "1", "1 :", " : 1", ": 1", "1 : ", "1: 1", "1 :1", "1:1", "1  : 1", "1 :  1", " 1 : 1", "1 : 1 ",
                 "1 : 1 : 1", "1 : 1 |", "1 : 1 | ", "1 : | 1", "1 :  | 1", "1 : 1 || 2", "1 : 1 |  | 2", "1 : 1 | | 2",
                 "1 : 1|2", "1 : 1  2", "1 : 1  | 2", "1 : 1 |  2", "1 | 2 : 1", "1 : a", "a : 1", "1 ; 1", "1 : 1,2",
                 "1 : none", "1 : -", "1 : 1 | 2 |", "1\t: 1", "1 - 1", "1 : 1.0", "1 1")
        for line in wrong:
            self.wrong(1, line)
            self.wrong(3, "1 : 1", "2 : 2", line.replace("1", "3"))
            self.wrong(1, line, "no line")

    def test_words(self):
        Task("0 : 0\n99 : 99\n0 99 : 0 99")
        for word in ("100", "01", "00", "-1", "-0", "+1", "1.", "1_0", "999999999", "007", "0x1", "1e1"):
            self.wrong(2, "1 : 1", f"{word} : 1")
            self.wrong(2, "1 : 1", f"2 : {word}")
            self.wrong(2, "1 : 1", f"1 {word} : 1")
            self.wrong(2, "1 : 1", f"2 : 1 | 1 {word}")

    def test_words_of_a_lot_ascend(self):
        for lot in ("2 1", "1 1", "1 2 2", "1 3 2", "2 2", "10 9"):
            self.wrong(4, "1 : 1", "2 : 1", "3 : 1", f"{lot} : 1")
            self.wrong(4, "1 : 1", "2 : 1", "3 : 1", f"1 2 : {lot}")
            self.wrong(4, "1 : 1", "2 : 1", "3 : 1", f"1 2 : 1 | {lot} | 1")
        Task("9 : 9\n10 : 9 10\n9 10 : 1 | 2")

    def test_four_words_and_five_on_the_left(self):
        Task("\n".join([*alone(1, 2, 3, 4, 5), "1 2 3 4 : 1", "2 3 4 5 : 1"]))
        self.wrong(6, *alone(1, 2, 3, 4, 5), "1 2 3 4 5 : 1")
        self.wrong(1, "1 2 3 4 5 : 1", *alone(1, 2, 3, 4, 5))

    def test_six_words_and_seven_on_the_left(self):
        task = Task("\n".join([f"{word} : 0" for word in (1, 2, 3, 4, 5, 6)]))
        self.same(task.words, (1, 2, 3, 4, 5, 6))
        self.wrong(7, *[f"{word} : 0" for word in (1, 2, 3, 4, 5, 6, 7)])
        self.wrong(4, "1 2 3 4 : 0", "1 : 0", "5 : 0", "6 7 : 0", "no line")
        self.wrong(3, "1 2 3 4 : 0", "4 5 6 : 0", "1 2 3 7 : 0")

    def test_eight_words_and_nine_behind_colons(self):
        self.same(Task("1 : 1 2 3 4 5 6 7 8").spoken, (1, 2, 3, 4, 5, 6, 7, 8))
        Task("1 : 1 2 3 4 | 5 6 7\n2 : 8 | 1 2 3\n1 2 : 1 2 3 4 5 6 7 8")
        self.wrong(1, "1 : 1 2 3 4 5 6 7 8 9")
        self.wrong(1, "1 : 1 2 3 4 5 6 | 7 8 9")
        self.wrong(3, "1 : 1 2 3 4 | 5 6 7", "2 : 8 | 1 2 3", "1 2 : 1 | 9")
        # Words on the left are counted by themselves.
        Task("\n".join(f"{word} : 90 91 92 93 94 95 96 97" for word in (1, 2, 3, 4, 5, 6)))

    def test_twenty_lines_and_one_more(self):
        words = (1, 2, 3, 4, 5, 6)
        lines = [f"{text_of(lot)} : 0" for lot in all_lots(words, 1)[:21]]
        self.same(len(Task("\n".join(lines[:20]))), 20)
        self.wrong(21, *lines)
        self.wrong(21, *lines[:20], "no line")
        self.wrong(21, *lines[1:], "no line")

    def test_a_left_lot_again(self):
        self.wrong(2, "1 : 1", "1 : 2")
        self.wrong(2, "1 : 1", "1 : 1")
        self.wrong(4, "1 : 1", "2 : 1", "1 2 : 1", "1 2 : 2", "no line")

    def test_words_that_do_not_stand_alone(self):
        self.wrong(2, "1 2 : 1")
        self.wrong(3, "1 : 1", "1 2 : 1")
        self.wrong(4, "1 : 1", "2 : 2", "2 3 : 2")
        lots = [lot for lot in all_lots((1, 2, 3, 4, 5, 6), 1) if lot != (6,)][:20]
        self.wrong(21, *[f"{text_of(lot)} : 0" for lot in lots])
        # Words behind colons need not.
        Task("1 : 2 3")

    def test_blanks_and_line_feeds(self):
        self.wrong(1, "")
        self.wrong(4, AGREE + "\n")
        self.wrong(1, "\n" + AGREE)
        self.wrong(2, "1 : 1", "", "2 : 2")
        self.wrong(1, "1 : 1 2 : 2")

    def test_the_first_wrong_line_is_told(self):
        self.wrong(2, "1 : 1", "01 : 1", "1 : 1")
        self.wrong(2, "1 2 : 1", "no line")

    def test_equality(self):
        self.assertTrue(Task(AGREE) == Task(AGREE))
        self.assertFalse(Task(AGREE) != Task(AGREE))
        for text in (LOOSE, "2 : 2\n1 : 1\n1 2 : 1 | 2", "1 : 1\n2 : 2\n1 2 : 2 | 1"):
            self.assertFalse(Task(AGREE) == Task(text))
            self.assertTrue(Task(AGREE) != Task(text))
        for value in some_values() + [AGREE, Task(AGREE).lines, unittest.mock.ANY]:
            self.assertFalse(Task(AGREE) == value)
            self.assertTrue(Task(AGREE) != value)
        self.assertFalse(Task("1 : 1") == Program("hands 1\nsay 0"))

    def test_operators_that_are_not_told(self):
        task = Task(AGREE)
        for call in (lambda: task < task, lambda: task >= task, lambda: task + task, lambda: task[0], lambda: 1 in task,
                     lambda: list(task), lambda: -task, lambda: task * 2, lambda: task <= (1,), lambda: task & task):
            self.assertRaises(TypeError, call)


class Ends(Case):
    def test_examples(self):
        agree, loose = Task(AGREE), Task(LOOSE)
        self.same([agree.words, agree.ends((1, 2)), loose.ends((1, 2)), loose.ends((1,))],
                  [(1, 2), ((1,), (2,)), ((1, 2),), ((1,),)])
        self.same([agree.right((1, 2), said) for said in ((1,), (1, 2), ())], [True, False, True])

    def test_ends_of_all_lines_within(self):
        task = Task("1 : 1 | 3\n2 : 2 | 2\n1 2 : 1 2 | 3 | 5\n3 : 0\n1 2 3 : 0 1 2 3")
        self.same(task.ends((1,)), ((1,), (3,)))
        self.same(task.ends((2,)), ((2,),))
        self.same(task.ends((1, 2)), ((1, 2), (3,), (5,)))
        self.same(task.ends((1, 3)), ((0,), (1,), (3,)))
        self.same(task.ends((1, 2, 3)), ((0, 1, 2, 3), (5,)))
        self.same(task.ends(lot=(2, 3)), ((0,), (2,)))

    def test_ends_ascend_as_python_sorts(self):
        task = Task("1 : 2 | 10 | 1 9 | 0 11")
        self.same(task.ends((1,)), ((0, 11), (1, 9), (2,), (10,)))

    def test_ends_of_what_is_none(self):
        task = Task(AGREE)
        for value in NO_LOTS:
            self.refuses(BadLot, value, task.ends, value)
        for lot in ((), (0,), (3,), (1, 3), (1, 2, 3), (100,), (0, 1, 2)):
            self.refuses(NoWords, lot, task.ends, lot)

    def test_words_behind_colons_cannot_be_brought(self):
        self.refuses(NoWords, (5,), Task("1 : 5").ends, (5,))

    def test_right(self):
        task = Task("1 : 1 | 3 4\n2 : 2\n1 2 : 1 2 | 3")
        for brought, said, wanted in (
            ((1,), (1,), True), ((1,), (3, 4), True), ((1,), (4,), True), ((1,), (1, 3), False), ((1,), (2,), False),
            ((1, 2), (1, 2), True), ((1, 2), (3, 4), True), ((1, 2), (2, 3), False), ((2,), (), True), ((2,), (100,), False),
            ((1, 2), (1, 2, 99), False), ((2,), (2,), True),
        ):
            self.same(task.right(brought, said), wanted, (brought, said))
        self.same(task.right(brought=(1,), said=(1,)), True)

    def test_right_of_what_is_none(self):
        task = Task(AGREE)
        for value in NO_LOTS:
            self.refuses(BadLot, value, task.right, value, (1,))
            self.refuses(BadLot, value, task.right, value, None)
            self.refuses(BadLot, value, task.right, (1,), value)
        for lot in ((), (3,), (1, 3)):
            self.refuses(NoWords, lot, task.right, lot, (1,))
            self.refuses(NoWords, lot, task.right, lot, None)
            self.refuses(NoWords, lot, task.right, lot, [1])

    def test_against_the_plainest_telling(self):
        for seed in range(60):
            task = some_task(seed)
            for brought in all_lots(task.words, 1):
                ends = [set(end) for left, ends in task.lines for end in ends if set(left) <= set(brought)]
                greatest = sorted({tuple(sorted(end)) for end in ends if not any(end < other for other in ends)})
                self.same(task.ends(brought), tuple(greatest))
                for said in all_lots(task.spoken):
                    self.same(task.right(brought, said), plainly_right(task, brought, said))

    def test_more_brought_and_less_said_stays_right(self):
        for seed in range(20):
            task = some_task(seed)
            for brought in all_lots(task.words, 1):
                for said in task.ends(brought):
                    for less in all_lots(said):
                        self.assertTrue(task.right(brought, less))
                        self.assertTrue(task.right(task.words, less))


class Within(Case):
    def test_examples(self):
        agree, loose = Task(AGREE), Task(LOOSE)
        self.same([within(agree, loose), within(loose, agree)], [("within",), ("beyond", (1, 2), (1, 2))])

    def test_both_ways(self):
        agree, loose, other = Task(AGREE), Task(LOOSE), Task("1 : 1\n2 : 2 3")
        self.same(within(agree, agree), ("within",))
        self.same(within(agree, other), ("within",))
        self.same(within(other, agree)[0], "beyond")
        self.same(within(loose, other), ("beyond", (1, 2), (1, 2)))
        self.same(within(one=other, other=loose)[0], "beyond")
        self.same(within(Task("1 : 1\n2 : 2\n1 2 : 1"), Task("1 : 1\n2 : 2")), ("within",))

    def test_other_words(self):
        agree = Task(AGREE)
        for text in ("1 : 1", "1 : 1\n2 : 2\n3 : 1", "1 : 1\n3 : 2\n1 3 : 1 2"):
            other = Task(text)
            for call in (within, lambda one, two: shows_within(one, two, ("within",)), lambda one, two: shows_within(one, two, None)):
                self.refuses(OtherWords, other, call, agree, other)
                self.refuses(OtherWords, agree, call, other, agree)
        # Words behind colons may be others.
        self.same(within(Task("1 : 2"), Task("1 : 3")), ("beyond", (1,), (2,)))

    def test_shows_within(self):
        agree, loose = Task(AGREE), Task(LOOSE)
        self.same(shows_within(agree, loose, ("within",)), True)
        self.same(shows_within(loose, agree, ("within",)), False)
        self.same(shows_within(loose, agree, ("beyond", (1, 2), (1, 2))), True)
        self.same(shows_within(one=loose, other=agree, value=("beyond", (1, 2), (1, 2))), True)
        self.same(shows_within(agree, loose, ("beyond", (1, 2), (1, 2))), False)
        self.same(shows_within(Task("1 : 1 2 3"), Task("1 : 1 2"), ("beyond", (1,), (3,))), True)
        self.same(shows_within(Task("1 : 1 2 3"), Task("1 : 1 2"), ("beyond", (1,), (1, 3))), True)

    def test_shows_within_of_what_is_near(self):
        agree, loose = Task(AGREE), Task(LOOSE)
        near = (["within"], "within", ("within", ()), ("within", None), (), None, ("Within",), (("within",),), ("beyond",),
                ("within", (1, 2), (1, 2)), True, False, {"within": 1}, agree, (True,), ("beyond", (1, 2), (1, 2)))
        for value in near:
            self.same(shows_within(agree, loose, value), False, value)
        beyond = (["beyond", (1, 2), (1, 2)], ("beyond", [1, 2], (1, 2)), ("beyond", (1, 2), [1, 2]), ("beyond", (True, 2), (1, 2)),
                  ("beyond", (1, 2), (True, 2)), ("beyond", (2, 1), (1, 2)), ("beyond", (1, 2), (2, 1)),
                  ("beyond", (1, 2), (1, 2), ()), ("beyond", (1, 2)), ("beyond", (1,), (1, 2)), ("beyond", (1, 2), (1,)),
                  ("beyond", (1, 2), ()), ("beyond", (), (1, 2)), ("beyond", (1, 2, 3), (1, 2)), ("beyond", (1, 2), (1, 2, 3)),
                  ("beyond", (1, 1, 2), (1, 2)), ("beyond", None, None), ("beyond", 1, 2), ("within", (1, 2), (1, 2)),
                  (1, (1, 2), (1, 2)), (("beyond",), (1, 2), (1, 2)), ("beyond", (1, 2), (1, None)), ("beyond", (3,), (1, 2)),
                  ("beyond", "12", "12"), ("beyond", {}, {}), ("beyond", (-1, 1), (1, 2)), (agree, agree, agree))
        for value in beyond:
            self.same(shows_within(loose, agree, value), False, value)
        for value in some_values():
            self.same(shows_within(loose, agree, value), False, value)

    def test_against_the_plainest_telling(self):
        beyond = 0
        for seed in range(20):
            one = some_task(seed)
            other = narrower(one, seed % 2)
            spoken = all_lots(one.spoken)
            for left, right in ((one, other), (other, one)):
                pairs = [(brought, said) for brought in all_lots(left.words, 1) for said in spoken
                         if plainly_right(left, brought, said) and not plainly_right(right, brought, said)]
                found = within(left, right)
                self.same(found == ("within",), not pairs)
                self.same(shows_within(left, right, found), True)
                self.same(shows_within(left, right, ("within",)), not pairs)
                beyond += bool(pairs)
                for brought in all_lots(left.words, 1):
                    for said in spoken:
                        self.same(shows_within(left, right, ("beyond", brought, said)), (brought, said) in pairs)
        self.assertGreater(beyond, 5)


class Renamed(Case):
    def test_examples(self):
        self.same(renamed(Task(AGREE), ((1, 30), (2, 4))).text.split("\n"), ["30 : 30", "4 : 4", "4 30 : 30 | 4"])

    def test_words_behind_colons_are_renamed_too(self):
        task = Task("1 : 5 7 | 1\n0 : 0")
        self.same(renamed(task, ((0, 9), (1, 0), (5, 5), (7, 1))).text, "0 : 1 5 | 0\n9 : 9")
        self.same(renamed(task=task, pairs=((0, 0), (1, 1), (5, 5), (7, 7))).text, task.text)
        self.same(renamed(task, ((0, 1), (1, 0), (5, 7), (7, 5))).text, "0 : 5 7 | 0\n1 : 1")
        self.same(task.text, "1 : 5 7 | 1\n0 : 0")

    def test_pairs_that_are_wrong(self):
        task = Task("1 : 1 5\n2 : 2")
        right = ((1, 30), (2, 4), (5, 6))
        renamed(task, right)
        wrong = (
            list(right), right[:2], right[1:], (), right + ((7, 7),), ((0, 0),) + right, right[::-1], (right[1], right[0], right[2]),
            right + (right[2],), ((1, 30), (2, 30), (5, 6)), ((1, 4), (2, 4), (5, 6)), ([1, 30], (2, 4), (5, 6)), ((1, 30, 0), (2, 4), (5, 6)),
            ((1,), (2, 4), (5, 6)), ((True, 30), (2, 4), (5, 6)), ((1, True), (2, 4), (5, 6)), ((1, 100), (2, 4), (5, 6)),
            ((1, -1), (2, 4), (5, 6)), ((1, None), (2, 4), (5, 6)), ((1, "30"), (2, 4), (5, 6)), (("1", 30), (2, 4), (5, 6)),
            ((1, 30), (3, 4), (5, 6)), (1, 2, 5), ((1, 30), (2, 4), None), {1: 30, 2: 4, 5: 6}, ((1, 30), (2, 4), (5, (6,))),
            (((1, 30), (2, 4), (5, 6)),), "123", ("12", "23", "56"), ((1, 30), (1, 31), (2, 4), (5, 6)),
        )
        for value in (*wrong, *some_values()):
            self.refuses(BadPairs, value, renamed, task, value)


class Stand:
    """Stands in for a House, with what judged_house asks of one."""

    def __init__(self, words, run, said):
        self.words = words
        self.run = run
        self.said = said


class Judged(Case):
    def test_example(self):
        agree, loose = Task(AGREE), Task(LOOSE)
        run = ((0, "write", 1), (0, "look", (1, None)), (0, "say", 1), (1, "write", 2))
        self.same(judged_house(agree, Stand((1, 2), run, (1, None))), None)
        run += ((1, "look", (1, 2)), (1, "say", 2))
        house = Stand((1, 2), run, (1, 2))
        self.same([judged_house(agree, house), judged_house(task=loose, house=house)], [(1, 2), None])

    def test_no_step(self):
        for words in ((1, 2), (7, 8), (None, None)):
            self.same(judged_house(Task(AGREE), Stand(words, (), (None, None))), None)

    def test_only_hands_with_a_step_have_brought(self):
        task = Task(AGREE)
        house = Stand((1, 2, 9), ((1, "say", 1),), (None, 1, None))
        self.same(judged_house(task, house), (1,))
        house = Stand((1, 2, 9), ((1, "say", 1), (0, "write", 5)), (None, 1, None))
        self.same(judged_house(task, house), None)
        house = Stand((1, 1, None), ((1, "say", 1), (0, "say", 1)), (1, 1, None))
        self.same(judged_house(task, house), None)

    def test_a_forget_is_a_step(self):
        house = Stand((1, 2), ((0, "forget", None), (1, "say", 1)), (None, 1))
        self.same(judged_house(Task(AGREE), house), None)
        house = Stand((1, 2), ((1, "say", 1),), (None, 1))
        self.same(judged_house(Task(AGREE), house), (1,))

    def test_words_that_the_task_has_not(self):
        house = Stand((9, 2), ((0, "write", 1), (1, "write", 1)), (None, None))
        self.refuses(NoWords, (2, 9), judged_house, Task(AGREE), house)
        house = Stand((9, 2), ((1, "write", 1),), (None, None))
        self.same(judged_house(Task(AGREE), house), None)
        house = Stand((5, 5), ((1, "say", 5), (0, "write", 1)), (None, 5))
        self.refuses(NoWords, (5,), judged_house, Task("1 : 5"), house)

    def test_lots_are_told(self):
        run = tuple([(hand, "say", 0) for hand in (2, 0, 1)])
        self.same(judged_house(Task(AGREE), Stand((1, 2, 1), run, (7, 3, 7))), (3, 7))
        self.same(judged_house(Task(AGREE), Stand((1, 1, 1), run, (2, 2, 2))), (2,))

    def test_the_house_is_left_as_it_was(self):
        house = Stand((1, 2), ((1, "say", 1),), (None, 1))
        judged_house(Task(AGREE), house)
        self.same([house.words, house.run, house.said], [(1, 2), ((1, "say", 1),), (None, 1)])


class Names(Case):
    """Guarantee (j): other names, and another sequence of lines, tell the same."""

    def test_other_names(self):
        for seed in range(30):
            task = some_task(seed)
            all_words = sorted(set(task.words + task.spoken))
            names = dict(zip(all_words, random.Random(seed).sample(range(100), len(all_words))))
            other = renamed(task, tuple(names.items()))
            self.same(other.words, self.called(task.words, names))
            self.same(other.spoken, self.called(task.spoken, names))
            self.same(other.lines, tuple([(self.called(left, names), tuple([self.called(end, names) for end in ends]))
                                          for left, ends in task.lines]))
            back = tuple(sorted([(names[word], word) for word in names]))
            self.assertTrue(renamed(other, back) == task)
            for brought in all_lots(task.words, 1):
                ends = sorted([self.called(end, names) for end in task.ends(brought)])
                self.same(other.ends(self.called(brought, names)), tuple(ends))
                for said in all_lots(task.spoken):
                    self.same(other.right(self.called(brought, names), self.called(said, names)), task.right(brought, said))

    def called(self, lot, names):
        return tuple(sorted([names[word] for word in lot]))

    def test_within_of_other_names(self):
        for one, other in ((AGREE, LOOSE), (LOOSE, AGREE)):
            pairs = ((1, 60), (2, 5))
            told = within(renamed(Task(one), pairs), renamed(Task(other), pairs))
            self.same(told, ("within",) if one == AGREE else ("beyond", (5, 60), (5, 60)))

    def test_judged_of_other_names(self):
        task = renamed(Task(AGREE), ((1, 30), (2, 4)))
        run = ((0, "say", 30), (1, "say", 4))
        self.same(judged_house(task, Stand((30, 4), run, (30, 4))), (4, 30))
        self.same(judged_house(task, Stand((30, 4), run, (4, 4))), None)

    def test_another_sequence_of_lines(self):
        text = "1 : 1 | 3\n2 : 2\n1 2 : 1 2 | 3\n3 : 0 3"
        task = Task(text)
        for lines in permutations(text.split("\n")):
            other = Task("\n".join(lines))
            self.same([other.words, other.spoken], [task.words, task.spoken])
            self.same([within(task, other), within(other, task)], [("within",), ("within",)])
            for brought in all_lots(task.words, 1):
                self.same(other.ends(brought), task.ends(brought))


if __name__ == "__main__":
    unittest.main()
