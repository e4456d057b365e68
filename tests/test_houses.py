"""Point 5: houses; and point 11's judged_house beside them."""

import random
import unittest
from itertools import combinations

from fewplaymany.errors import (
    BadAnswer, BadBoxes, BadHand, BadProgram, BadWeaving, BadWords, Done, HasBoxes, NoProgram, NotAsking, NoWords, Wide,
)
from fewplaymany.houses import House
from fewplaymany.players import forget, Played
from fewplaymany.programs import Program
from fewplaymany.tasks import judged_house, renamed, Task
from helpers import ASKING, Case, LEAST, NO_HANDS, PAIR, programs_barred, ROUNDS, some_values, text_of
from plain import Maker
from plain_players import PlainHouse, PlainProgram

AGREE = Task("1 : 1\n2 : 2\n1 2 : 1 | 2")
LOOSE = Task("1 : 1\n2 : 2\n1 2 : 1 2")
# An answer may be a word that stands left nowhere, and a word alone may have several ends.
WIDE = Task("1 : 1 7 | 8\n2 : 2 7\n3 : 3\n1 2 : 7 8 | 1 9")

# No words for two hands.
NO_WORDS = (None, (), (1,), (1, 2, 3), [1, 2], (1, True), (False, 2), (1, 100), (-1, 2), (1, "2"), (1, (2,)), (1, [2]), "12", 3, {},
            ((1, 2),))


def state(house):
    """All that a House tells of itself."""
    hands = range(house.program.many)
    return (house.words, house.boxes, house.boards, house.said, house.run, len(house), [house.next(hand) for hand in hands])


class Making(Case):
    def test_properties(self):
        house = House(Program(LEAST), (5, None))
        self.same(house.program, Program(LEAST))
        self.same([house.words, house.boxes, house.boards, house.said, house.run, len(house)],
                  [(5, None), (), (None, None), (None, None), (), 0])
        house = House(program=Program(ASKING), words=(1, 2), boxes=(AGREE,))
        self.same([house.boxes, house.run], [(AGREE,), ()])

    def test_no_program(self):
        for value in programs_barred():
            self.refuses(NoProgram, value, House, value, (1, 2))
            self.refuses(NoProgram, value, House, value, None, None)

    def test_bad_words(self):
        for words in NO_WORDS:
            self.refuses(BadWords, words, House, Program(LEAST), words)
            self.refuses(BadWords, words, House, Program(ASKING), words, None)
        for words in ((0, 99), (None, None), (None, 0), (5, 5)):
            self.same(House(Program(LEAST), words).words, words)
        self.refuses(BadWords, (1, 2), House, Played(Program(LEAST), 3), (1, 2))
        self.same(House(Played(Program(LEAST), 3), (1, 2, 3)).words, (1, 2, 3))

    def test_bad_boxes(self):
        for boxes in (None, (), [AGREE], AGREE, (AGREE, AGREE), (None,), ("1 : 1",), (1,), ((AGREE,),), (Program(LEAST),)):
            self.refuses(BadBoxes, boxes, House, Program(ASKING), (1, 2), boxes)
        for boxes in (None, (AGREE,), [], 0, "", (None,), {}):
            self.refuses(BadBoxes, boxes, House, Program(LEAST), (1, 2), boxes)
        asks = Program("hands 1\nask 2 mine got\nsay got")
        self.same(House(asks, (1,), (AGREE, LOOSE, WIDE)).boxes, (AGREE, LOOSE, WIDE))
        self.refuses(BadBoxes, (AGREE,), House, asks, (1,), (AGREE,))
        self.refuses(BadBoxes, (AGREE,), House, Played(Program(LEAST), 2), (1, 2), (AGREE,))


class Steps(Case):
    def test_every_kind(self):
        house = House(Program(text_of("write mine", "ask 0 plus mine 1 got", "look s", "say got")), (1, 2), (WIDE,))
        self.same([house.next(0), house.step(0), house.boards, house.next(0)],
                  [("write", 1), (0, "write", 1), (1, None), ("ask", 0, 2)])
        self.same([house.step(0), house.next(0), house.answers(0)], [(0, "ask", (0, 2)), ("answer", 0), (2, 7)])
        self.same([house.step(0, 7), house.next(0), house.step(hand=0), house.next(0)],
                  [(0, "answer", (0, 7)), ("look",), (0, "look", (1, None)), ("say", 7)])
        self.same([house.step(0, None), house.next(0), house.said, house.boards], [(0, "say", 7), None, (7, None), (1, None)])
        self.same(house.run, ((0, "write", 1), (0, "ask", (0, 2)), (0, "answer", (0, 7)), (0, "look", (1, None)), (0, "say", 7)))
        self.same(len(house), 5)

    def test_looks_see_what_boards_show(self):
        house = House(Program(text_of("write row 2 me mine", "look s", "write s", "look s", "say count s", hands=3)), (4, 5, 6))
        house.weave((0, 2, 2))
        self.same(house.run[-1], (2, "look", ((0, 4), None, (2, 6))))
        house.weave((2, 0))
        self.same(house.boards, ((0, 4), None, ((0, 4), None, (2, 6))))
        self.same(house.run[-1], (0, "look", house.boards))

    def test_a_written_none_and_nothing_written_look_alike(self):
        house = House(Program(text_of("write none", "look s", "say count s")), (1, 2))
        house.weave((0, 0, 0))
        self.same([house.boards, house.run[1], house.said], [(None, None), (0, "look", (None, None)), (0, None)])

    def test_who_never_comes(self):
        house = House(Program(LEAST), (5, None))
        self.same([house.next(1), house.weave((1, 1, 0, 1))], [None, ((0, "write", 5),)])
        self.refuses(Done, 1, house.step, 1)
        self.refuses(Done, 1, house.step, 1, 5)
        empty = House(Program(LEAST), (None, None))
        self.same([empty.weave((0, 1) * 10), empty.run, empty.next(0)], [(), (), None])

    def test_who_has_said(self):
        house = House(Program(LEAST), (5, 3))
        house.weave((0, 0, 0))
        self.same([house.next(0), house.said], [None, (5, None)])
        self.refuses(Done, 0, house.step, 0)
        self.refuses(Done, 0, house.step, 0, 1)
        self.same(house.weave((0, 0)), ())
        self.same(len(house), 3)

    def test_bad_hand(self):
        house = House(Program(ASKING), (1, 2), (AGREE,))
        for value in (*NO_HANDS, 2):
            self.refuses(BadHand, value, house.next, value)
            self.refuses(BadHand, value, house.answers, value)
            self.refuses(BadHand, value, house.step, value)
            self.refuses(BadHand, value, house.step, value, "no answer")
        self.same(house.next(hand=1), ("ask", 0, 2))

    def test_bad_answer(self):
        house = House(Program(ASKING), (1, 2), (AGREE,))
        for value in (0, 1, False, True, (), "", "1", (1,), []):
            self.refuses(BadAnswer, value, house.step, 0, value)
        house.step(0)
        for value in (None, 0, 2, 3, True, False, "1", (1,), [1], -1, 100, {}):
            self.refuses(BadAnswer, value, house.step, 0, value)
        self.same([house.next(0), house.step(0, answer=1)], [("answer", 0), (0, "answer", (0, 1))])
        self.refuses(BadAnswer, 1, house.step, 0, 1)

    def test_a_refused_step_changes_nothing(self):
        house = House(Program(ASKING), (1, 2), (AGREE,))
        house.step(0)
        house.step(1)
        before = state(house)
        for error, call in ((BadHand, lambda: house.step(2)), (BadAnswer, lambda: house.step(0, 5)), (BadAnswer, lambda: house.step(0)),
                            (BadWeaving, lambda: house.weave((0, 2))), (HasBoxes, lambda: house.weave((1, 0)))):
            self.assertRaises(error, call)
            self.same(state(house), before)
        plain = House(Program(LEAST), (1, 2))
        plain.weave((0, 0))
        before = state(plain)
        self.assertRaises(BadWeaving, plain.weave, (0, 1, 0, 1, 0, 1, True))
        self.assertRaises(BadAnswer, plain.step, 1, 1)
        self.same(state(plain), before)
        self.same(plain, plain)

    def test_weave(self):
        house = House(Program(LEAST), (5, 3))
        for value in (None, 0, [0, 1], (2,), (0, 1, -1), (True,), (0, False), ("0",), ((0,),), "01", (0,) * 3001, (None,), {}):
            self.refuses(BadWeaving, value, house.weave, value)
        self.same([house.weave(()), house.run], [(), ()])
        self.same(house.weave(weaving=(1, 0, 1)), ((1, "write", 3), (0, "write", 5), (1, "look", (5, 3))))
        self.same([len(house.weave((0,) * 3000)), house.said], [2, (3, None)])
        asks = House(Program(ASKING), (1, 2), (AGREE,))
        self.refuses(HasBoxes, Program(ASKING), asks.weave, (0,))
        self.refuses(HasBoxes, Program(ASKING), asks.weave, ())
        self.refuses(BadWeaving, (2,), asks.weave, (2,))

    def test_a_wait_goes_on_as_long_as_it_must(self):
        house = House(Program(text_of("write mine", "wait s less 1 count s", "say count s")), (5, 3))
        self.same(len(house.weave((0,) * 500)), 500)
        self.same([house.next(0), house.next(1)], [("look",), ("write", 3)])
        house.weave((1, 0, 0))
        self.same(house.said, (2, None))

    def test_two_hundred_things(self):
        full = "row 6 " + " ".join(["row 6 1 2 3 4 5 6"] * 6)
        lines = [f"keep a {full}", "keep b row 4 a a a a", "write b", "look s", "say count s"]
        house = House(Program(text_of(*lines)), (1, 2))
        wide = (tuple([(1, 2, 3, 4, 5, 6)] * 6),) * 4
        # 4 times 43 things, and one.
        self.same(house.weave((0, 0, 0))[0], (0, "write", wide))
        self.same(house.said, (1, None))
        house.weave((1, 1, 1))
        # What both show has more than 200 things: it is seen, but is no NAME's.
        self.same(house.run[-2:], ((1, "look", (wide, wide)), (1, "say", 0)))
        self.same(House(Program(text_of("keep a row 1 none", *["keep a row 2 a a"] * 7, "write a", "say 0")), (1, 2)).next(0),
                  ("write", None))

    def test_against_the_plainest_telling(self):
        steps = 0
        for seed in range(300):
            maker = Maker(seed)
            text = maker.program()
            try:
                program = Program(text)
            except (BadProgram, Wide):
                continue
            any_of = maker.any
            words = tuple([any_of.choice([None, any_of.randint(0, 99), any_of.randint(0, 99)]) for _ in range(program.many)])
            boxes = tuple([Task("\n".join([f"{word} : {any_of.randint(0, 3)} {any_of.randint(4, 7)}" for word in range(6)]))
                           for _ in range(program.boxes)])
            house, plain = House(program, words, boxes), PlainHouse(PlainProgram(text), words)
            for _ in range(60):
                hand = any_of.randrange(program.many)
                due = house.next(hand)
                self.same(due, plain.next(hand), text)
                if due is None:
                    self.refuses(Done, hand, house.step, hand)
                    continue
                answer = None
                if due[0] == "answer":
                    may = house.answers(hand)
                    if not may:
                        continue
                    answer = any_of.choice(may)
                else:
                    self.refuses(NotAsking, hand, house.answers, hand)
                self.same(house.step(hand, answer), plain.step(hand, answer), text)
                steps += 1
                if any_of.random() < 0.2:
                    house = house.copy()
            self.same([house.boards, house.said, house.run, len(house)],
                      [tuple(plain.boards), tuple(plain.said), tuple(plain.run), len(plain.run)])
        self.assertGreater(steps, 5000)


class Boxes(Case):
    def test_not_asking(self):
        house = House(Program(ASKING), (1, None), (AGREE,))
        self.refuses(NotAsking, 0, house.answers, 0)
        self.refuses(NotAsking, 1, house.answers, 1)
        house.step(0)
        self.same(house.answers(hand=0), (1,))
        house.step(0, 1)
        self.refuses(NotAsking, 0, house.answers, 0)
        for _ in range(3):
            house.step(0)
        self.same(house.next(0), None)
        self.refuses(NotAsking, 0, house.answers, 0)

    def test_answers_hang_on_all_that_was_brought(self):
        house = House(Program(ASKING), (1, 2), (AGREE,))
        house.step(0)
        self.same(house.answers(0), (1,))
        house.step(1)
        self.same([house.answers(0), house.answers(1)], [(1, 2), (1, 2)])
        house.step(1, 1)
        # One end alone holds what was answered so far.
        self.same(house.answers(0), (1,))
        self.refuses(BadAnswer, 2, house.step, 0, 2)
        self.same(house.step(0, 1), (0, "answer", (0, 1)))

    def test_answers_hang_on_all_that_was_answered(self):
        for first, wanted in ((1, (1, 7, 9)), (7, (1, 2, 7, 8)), (8, (7, 8))):
            house = House(Program(ASKING), (1, 2), (WIDE,))
            house.step(0)
            self.same(house.answers(0), (1, 7, 8))
            house.step(0, first)
            house.step(1)
            self.same(house.answers(1), wanted, first)

    def test_a_word_that_stands_left_nowhere(self):
        # 9 may be said, but is not brought in this task; 50 is no word of it at all.
        for word in (9, 7, 50):
            house = House(Program(ASKING), (1, word), (WIDE,))
            house.step(1)
            self.same([house.next(1), house.answers(1)], [("answer", 0), ()])
            for value in (None, 1, 7, 9, word, ()):
                self.refuses(BadAnswer, value, house.step, 1, value)
            house.step(0)
            self.same([house.answers(0), house.answers(1)], [(1, 7, 8), ()])
            self.same(house.step(0, 8), (0, "answer", (0, 8)))
            self.same(house.next(1), ("answer", 0))

    def test_boxes_stand_by_themselves(self):
        program = Program(text_of("ask 0 mine a", "ask 1 mine b", "ask 0 b c", "say c"))
        house = House(program, (1, 2), (AGREE, LOOSE))
        house.step(0)
        house.step(1)
        house.step(0, 2)
        house.step(0)
        self.same([house.next(0), house.answers(0)], [("answer", 1), (1,)])
        house.step(0, 1)
        self.same([house.step(0), house.answers(0), house.answers(1)], [(0, "ask", (0, 1)), (2,), (2,)])
        house.step(0, 2)
        self.same(house.step(0), (0, "say", 2))

    def test_what_is_no_word_is_brought_as_0(self):
        zero = Task("0 : 4\n1 : 5")
        for term in ("none", "-1", "row 1 1", "plus 99 1"):
            house = House(Program(text_of(f"ask 0 {term} got", "say got")), (1, 2), (zero,))
            self.same([house.next(0), house.step(0), house.answers(0)], [("ask", 0, 0), (0, "ask", (0, 0)), (4,)])

    def test_boxes_and_words_by_other_names(self):
        """Boxes that bear other numbers, and tasks whose words are called otherwise, answer the same by these names."""
        lines = ["ask {0} mine a", "ask {1} mine b", "say 0"]
        tasks = (WIDE, AGREE)
        names = {word: 90 - word for word in (1, 2, 3, 7, 8, 9)}
        others = [renamed(task, tuple([(word, names[word]) for word in sorted({*task.words, *task.spoken})])) for task in tasks]
        one = House(Program(text_of(*[line.format(0, 1) for line in lines])), (1, 2), tasks)
        other = House(Program(text_of(*[line.format(2, 0) for line in lines])), (89, 88), (others[1], AGREE, others[0]))
        any_of = random.Random(2)
        for _ in range(40):
            hand = any_of.randrange(2)
            due = one.next(hand)
            if due is None:
                continue
            if due[0] == "answer":
                self.assertEqual(sorted([names[word] for word in one.answers(hand)]), list(other.answers(hand)))
                word = any_of.choice(one.answers(hand))
                one.step(hand, word)
                other.step(hand, names[word])
            else:
                one.step(hand)
                other.step(hand)
        self.same([len(one), one.said], [len(other), other.said])

    def test_answers_as_the_task_lets(self):
        """Answers are just the words by which, one behind the other, all answered is right for all brought."""
        any_of = random.Random(5)
        program = Program(text_of("ask 0 mine a", "ask 0 a b", "ask 0 b c", "say c", hands=4))
        for _ in range(150):
            words = any_of.sample(range(9), 3)
            lines = [f"{word} : {' | '.join([str(any_of.randrange(9)) for _ in range(any_of.randint(1, 3))])}" for word in words]
            for lot in combinations(sorted(words), 2):
                ends = [sorted(any_of.sample(range(9), any_of.randint(1, 3))) for _ in range(any_of.randint(1, 2))]
                lines.append(" ".join(map(str, lot)) + " : " + " | ".join([" ".join(map(str, end)) for end in ends]))
            try:
                task = Task("\n".join(lines))
            except ValueError:
                continue
            house = House(program, tuple([any_of.choice(words + [99]) for _ in range(4)]), (task,))
            brought, answered, own = set(), set(), {}
            for _ in range(30):
                hand = any_of.randrange(4)
                due = house.next(hand)
                if due is None:
                    continue
                if due[0] == "ask":
                    brought |= {due[2]} & set(task.words)
                    own[hand] = due[2]
                    house.step(hand)
                    continue
                if due[0] == "answer":
                    wanted = [word for word in range(100) if own[hand] in task.words and plainly_right(task, brought, answered | {word})]
                    self.same(house.answers(hand), tuple(wanted))
                    self.assertEqual(wanted == [], own[hand] not in task.words)
                    if wanted:
                        word = any_of.choice(wanted)
                        answered.add(word)
                        house.step(hand, word)
                    continue
                house.step(hand)


def plainly_right(task, brought, said):
    """Whether all said may be said when these were brought, told from the lines alone."""
    return any(set(left) <= brought and said <= set(end) for left, ends in task.lines for end in ends)


class Copies(Case):
    def test_a_copy_goes_on_by_itself(self):
        house = House(Program(ROUNDS), (1, 2, 9))
        house.weave((2, 2, 0, 1))
        copy = house.copy()
        self.equal(copy, house)
        self.same(state(copy), state(house))
        before = state(house)
        copy.weave((0, 0, 0, 1, 2, 0))
        self.same(state(house), before)
        self.unequal(copy, house)
        steps = copy.run[4:]
        self.same(house.weave((0, 0, 0, 1, 2, 0)), steps)
        self.equal(copy, house)
        self.same(state(copy), state(house))

    def test_a_copy_amid_an_ask(self):
        house = House(Program(ASKING), (1, 2), (AGREE,))
        house.step(0)
        copy = house.copy()
        house.step(1)
        self.same([copy.answers(0), house.answers(0)], [(1,), (1, 2)])
        copy.step(0, 1)
        self.same([house.next(0), copy.next(0)], [("answer", 0), ("write", 1)])

    def test_copies_of_players(self):
        any_of = random.Random(8)
        for program in (Played(Program(PAIR), 3), Played(Played(Program(PAIR), 2), 2)):
            house = House(program, (3, 7, 5)[:program.many])
            for _ in range(40):
                copy = house.copy()
                self.equal(copy, house)
                weaving = tuple([any_of.randrange(program.many) for _ in range(9)])
                steps = copy.weave(weaving)
                if copy.next(0) is not None:
                    forget(copy, 0)
                    self.unequal(copy, house)
                self.assertEqual(house.weave(weaving), steps)
                if house.next(0) is not None:
                    forget(house, 0)
                self.equal(copy, house)
            self.same(state(copy), state(house))

    def test_equality(self):
        house = House(Program(LEAST), (1, 2))
        self.equal(house, House(Program(LEAST), (1, 2)))
        self.unequal(house, House(Program(LEAST), (1, 3)))
        self.unequal(house, House(Program(LEAST), (1, None)))
        self.unequal(house, House(Program(PAIR), (1, 2)))
        self.unequal(House(Program(ASKING), (1, 2), (AGREE,)), House(Program(ASKING), (1, 2), (LOOSE,)))
        self.equal(House(Program(ASKING), (1, 2), (AGREE,)), House(Program(ASKING), (1, 2), (Task(AGREE.text),)))
        one, other = House(Program(LEAST), (1, 2)), House(Program(LEAST), (1, 2))
        one.weave((0, 1))
        other.weave((1, 0))
        self.unequal(one, other)
        for value in some_values() + [house.run, (house,), LEAST]:
            self.unequal(one, value)
        self.equal(House(Played(Program(LEAST), 2), (1, 2)), House(Played(Program(LEAST), 2), (1, 2)))
        self.unequal(House(Played(Program(LEAST), 2), (1, 2)), house)

    def test_operators(self):
        self.no_operators(House(Program(LEAST), (1, 2)))


class JudgedHouses(Case):
    def test_a_house_that_was_right_comes_to_be_wrong(self):
        house = House(Program(PAIR), (1, 2))
        self.same(judged_house(AGREE, house), None)
        self.same([len(house.weave((0, 0, 0, 1))), judged_house(AGREE, house)], [4, None])
        house.weave((1, 1))
        self.same([judged_house(AGREE, house), judged_house(task=LOOSE, house=house)], [(1, 2), None])

    def test_no_words(self):
        house = House(Program(PAIR), (1, 9))
        house.step(0)
        self.same(judged_house(AGREE, house), None)
        house.step(1)
        self.refuses(NoWords, (1, 9), judged_house, AGREE, house)

    def test_said_for_what_was_brought_so_far(self):
        house = House(Program("hands 2\nsay 2"), (1, 2))
        house.step(0)
        self.same(judged_house(AGREE, house), (2,))
        house.step(1)
        self.same(judged_house(AGREE, house), None)

    def test_a_forget_is_a_step(self):
        house = House(Played(Program(PAIR), 2), (1, 9))
        forget(house, 0)
        self.same(judged_house(AGREE, house), None)
        forget(house, 1)
        self.refuses(NoWords, (1, 9), judged_house, AGREE, house)


if __name__ == "__main__":
    unittest.main()
