"""Point 15: boxes; and guarantees (h) and (j) of point 3, of boxes."""

import random
import unittest

from fewplaymany.boxes import Filled, outer, shows_outer
from fewplaymany.chains import chosen, made
from fewplaymany.errors import BadAnswer, BadBoxes, BadHand, BadProgram, BadWeaving, BadWords, HasBoxes, NoBox, NoProgram, NotAsking, NotFilled
from fewplaymany.errors import OtherHands, TooMany, Twice, Wide
from fewplaymany.every import every_said
from fewplaymany.houses import House
from fewplaymany.players import forget, Played
from fewplaymany.programs import Program
from fewplaymany.reads import plain_run, Reads, shows_plain_run
from fewplaymany.runs import judged
from fewplaymany.tables import Tabled
from fewplaymany.tasks import Task
from fewplaymany.told import told
from helpers import ASKING, bent, Case, LEAST, NO_HANDS, PAIR, programs_barred, some_values, text_of
from plain import Maker, tree_of
from plain_players import PlainHouse, PlainPlayed, PlainProgram
from plain_tables import plain_outer, PlainFilled, PlainTabled
from test_chains import NEAR, pairs_task, sampled

LOOSE = Task("1 : 1\n2 : 2\n1 2 : 1 2")
TWO = text_of("ask 0 mine a", "write a", "ask 1 plus a 1 b", "look s", "say b")
AT_ONCE = Program("hands 2\nsay plus mine 10")


def ways(block, box, counts):
    """All (how often a box is asked, whether a say ended it) of ways through a block that begin with one of these counts."""
    going, ended = set(counts), set()
    for item in block:
        if item[0] == "say":
            ended |= going
            going = set()
        elif item[0] == "once":
            more = ways(item[1], box, going)
            going, ended = more[0], ended | more[1]
        elif item[0] == "if":
            one, other = ways(item[2], box, going), ways(item[3], box, going)
            going, ended = one[0] | other[0], ended | one[1] | other[1]
        elif item[0] == "ask" and int(item[1][0]) == box:
            going = {count + 1 for count in going}
    return going, ended


def asks_twice(text, box):
    """Whether a box is asked twice along some way, told anew."""
    going, ended = ways(tree_of(text), box, {0})
    return max(going | ended) > 1


class Making(Case):
    def test_properties(self):
        full = Filled(Program(ASKING), 0, Program(PAIR))
        self.same([full.program, full.box, full.other, full.many, full.boxes], [Program(ASKING), 0, Program(PAIR), 2, 0])
        full = Filled(program=Program(TWO), box=1, other=Tabled(2, 1, ()))
        self.same([full.box, full.other, full.many, full.boxes], [1, Tabled(2, 1, ()), 2, 1])
        self.same(Filled(Program("hands 2\nask 2 1 a\nsay a"), 0, Program(PAIR)).boxes, 2)

    def test_errors_in_sequence(self):
        for value in programs_barred():
            self.refuses(NoProgram, value, Filled, value, None, None)
            self.refuses(NoProgram, value, Filled, Program(ASKING), 0, value)
        for box in (1, -1, True, False, None, "0", (0,), 0.0, []):
            self.refuses(NoBox, box, Filled, Program(ASKING), box, None)
        for program in (Program(PAIR), Played(Program(PAIR), 2), Tabled(2, 0, ()), Filled(Program(ASKING), 0, Program(PAIR))):
            self.refuses(NoBox, 0, Filled, program, 0, None)
        other = Program("hands 3\nask 0 1 a\nsay a")
        self.refuses(HasBoxes, other, Filled, Program(ASKING), 0, other)
        self.refuses(HasBoxes, Program(ASKING), Filled, Program(ASKING), 0, Program(ASKING))
        half = Filled(Program(TWO), 0, Program(PAIR))
        self.refuses(HasBoxes, half, Filled, Program(ASKING), 0, half)
        twice = Program("hands 2\nask 0 1 a\nask 0 2 b\nsay b")
        for other in (Program("hands 3\nsay 0"), Tabled(1, 0, ()), Tabled(3, 2, ()), Played(Program(PAIR), 3)):
            self.refuses(OtherHands, other, Filled, twice, 0, other)
        self.refuses(Twice, 0, Filled, twice, 0, Program(PAIR))

    def test_twice_along_some_way_and_not_otherwise(self):
        ask = "ask 0 mine a"
        for lines, twice in ((("if same me 0", ask, "else", ask, "end"), False), (("if same me 0", ask, "end", ask), True),
                             (("if same me 0", ask, "say a", "end", ask), False), (("again 1", ask, "end"), False),
                             (("again 2", ask, "end"), True), (("again 9", ask, "say a", "end"), False),
                             (("again 2", "if same me 0", ask, "end", "end"), True), (("again 2", "again 1", ask, "end", "end"), True),
                             (("again 3", "if same me 0", ask, "say a", "end", "end"), False),
                             (("again 2", "if same me 0", ask, "say a", "else", "ask 1 0 a", "end", "end", ask), False),
                             (("again 2", "if same me 0", "say 1", "else", ask, "end", "end"), True),
                             (("if same 0 1", ask, "else", "end", "if same 0 0", ask, "end"), True),
                             (("if same 0 1", "say 3", "else", "say 4", "end", ask, ask), False), (("ask 1 0 a", "ask 1 0 b", ask), False),
                             ((ask, "if same me 0", "ask 1 0 a", "else", "if same me 1", ask, "end", "end"), True)):
            program = Program(text_of(*lines, "say 0"))
            self.same(asks_twice(program.text, 0), twice)
            if twice:
                self.refuses(Twice, 0, Filled, program, 0, Program(PAIR))
            else:
                self.same(Filled(program, 0, Program(PAIR)).many, 2)

    def test_twice_against_all_ways(self):
        found = []
        for seed in range(400):
            text = Maker(seed).program()
            try:
                program = Program(text)
            except (BadProgram, Wide):
                continue
            other = Tabled(program.many, 0, ()) if program.many < 4 else Program(f"hands {program.many}\nsay mine")
            for box in range(program.boxes):
                found.append(asks_twice(text, box))
                if found[-1]:
                    self.refuses(Twice, box, Filled, program, box, other)
                else:
                    self.same(Filled(program, box, other).boxes, program.boxes - 1)
        self.assertGreater(min(found.count(True), found.count(False)), 40)

    def test_twice_in_a_filled_one(self):
        text = text_of("ask 0 mine a", "ask 1 a b", "ask 1 b c", "ask 2 c d", "say d")
        self.refuses(Twice, 1, Filled, Program(text), 1, Program(PAIR))
        half = Filled(Program(text), 0, Program(PAIR))
        self.refuses(Twice, 0, Filled, half, 0, Program(PAIR))
        self.same(Filled(half, 1, Program(PAIR)).boxes, 1)
        last = Filled(Program(text), 2, Program(PAIR))
        self.same(Filled(last, 0, Program(PAIR)).boxes, 1)
        self.refuses(Twice, 1, Filled, last, 1, Program(PAIR))

    def test_equality(self):
        one = Filled(Program(TWO), 0, Program(PAIR))
        self.equal(one, Filled(Program(TWO), 0, Program(PAIR)))
        for other in (Filled(Program(TWO), 1, Program(PAIR)), Filled(Program(TWO), 0, Program(LEAST)), Program(TWO), Program(PAIR),
                      Filled(Program(ASKING), 0, Program(PAIR)), Tabled(2, 0, ())):
            self.unequal(one, other)
        for value in some_values() + [(Program(TWO), 0, Program(PAIR))]:
            self.unequal(one, value)
        self.no_operators(one)


class Playing(Case):
    def test_both_parts_of_the_board(self):
        program = Program(text_of("write 5", "ask 0 mine a", "look s", "write row 2 a part s 0", "say a"))
        house = House(Filled(program, 0, Program(text_of("write mine", "look s", "write s", "say count s"))), (7, 8))
        self.same([house.step(0), house.next(0), house.step(1)], [(0, "write", (5, None)), ("write", (5, 7)), (1, "write", (5, None))])
        self.same([house.step(0), house.step(0)], [(0, "write", (5, 7)), (0, "look", ((5, 7), (5, None)))])
        # The other program saw that hand 1 wrote nothing by it.
        self.same([house.step(0), house.next(0)], [(0, "write", (5, (7, None))), ("look",)])
        self.same([house.step(0), house.next(0)], [(0, "look", ((5, (7, None)), (5, None))), ("write", ((1, 5), (7, None)))])
        self.same([house.step(0), house.step(0), house.boards], [(0, "write", ((1, 5), (7, None))), (0, "say", 1), (((1, 5), (7, None)), (5, None))])

    def test_another_one_that_says_at_once(self):
        house = House(Filled(Program(ASKING), 0, AT_ONCE), (1, 2))
        self.same([house.next(0), house.next(1), outer(house)], [("write", (11, None)), ("write", (12, None)), ((), ())])
        house.weave((0, 1))
        self.same(outer(house), (((0, "ask", (0, 1)), (0, "answer", (0, 11)), (0, "write", 11),
                                  (1, "ask", (0, 2)), (1, "answer", (0, 12)), (1, "write", 12)), (0, 0, 0, 1, 1, 1)))
        house = House(Filled(Program("hands 2\nask 0 mine a\nsay a"), 0, AT_ONCE), (1, None))
        self.same([house.next(0), house.next(1), house.step(0)], [("say", 11), None, (0, "say", 11)])
        self.same(outer(house), (((0, "ask", (0, 1)), (0, "answer", (0, 11)), (0, "say", 11)), (0, 0, 0)))

    def test_another_one_that_waits(self):
        both = Program(text_of("write mine", "wait s less 1 count s", "say greatest s"))
        house = House(Filled(Program(ASKING), 0, both), (1, 2))
        self.same([len(house.weave((0,) * 20)), house.next(0)], [20, ("look",)])
        run, places = outer(house)
        self.same([run, places], [((0, "ask", (0, 1)),), (0,)])
        house.weave((1, 1))
        self.same([house.next(1), outer(house)], [("write", (2, 2)), (((0, "ask", (0, 1)), (1, "ask", (0, 2))), (0, 20))])
        house.weave((0, 0))
        self.same(outer(house)[0][2:], ((0, "answer", (0, 2)), (0, "write", 2)))

    def test_asked_in_one_way_of_an_if_alone(self):
        program = Program(text_of("if same me 0", "ask 0 mine a", "end", "write a", "look s", "say count s"))
        house = House(Filled(program, 0, Program(PAIR)), (3, 4))
        house.weave((1, 1, 1, 0))
        self.same([house.run[0], house.run[3]], [(1, "write", (None, None)), (0, "write", (None, 3))])
        self.same(outer(house)[0], ((1, "write", None), (1, "look", (None, None)), (1, "say", 0), (0, "ask", (0, 3))))

    def test_what_a_hand_brings_is_its_word_there(self):
        program = Program(text_of("ask 0 plus mine 10 a", "ask 1 none b", "say plus a b"))
        other = Program(text_of("say plus mine me"))
        full = Filled(Filled(program, 1, other), 0, other)
        house = House(full, (3, 4))
        house.weave((0, 1))
        self.same(house.said, (13, 16))

    def test_boxes_that_are_asked_still(self):
        for box, left in ((0, 1), (1, 0)):
            half = Filled(Program(TWO), box, AT_ONCE)
            house = House(half, (1, 2), (Task("1 : 5\n2 : 6\n12 : 7"),))
            if box == 0:
                self.same([house.step(0), house.next(0)], [(0, "write", (11, None)), ("ask", 0, 12)])
                self.same([house.step(0), house.next(0), house.answers(0)], [(0, "ask", (0, 12)), ("answer", 0), (7,)])
                self.same([house.step(0, 7), house.next(0)], [(0, "answer", (0, 7)), ("look",)])
                self.same(outer(house)[0], ((0, "ask", (0, 1)), (0, "answer", (0, 11)), (0, "write", 11), (0, "ask", (1, 12)),
                                            (0, "answer", (1, 7))))
            else:
                self.same([house.next(0), house.step(0), house.answers(0)], [("ask", 0, 1), (0, "ask", (0, 1)), (5,)])
                self.refuses(BadAnswer, 6, house.step, 0, 6)
                self.refuses(BadAnswer, None, house.step, 0)
                self.same([house.step(0, 5), house.step(0), house.next(0)], [(0, "answer", (0, 5)), (0, "write", (5, None)), ("look",)])
            self.refuses(HasBoxes, half, house.weave, (0,))
            self.refuses(BadBoxes, (), House, half, (1, 2))
            self.refuses(NotAsking, 0, house.answers, 0)
            self.refuses(HasBoxes, half, Played, half, 2)
            self.refuses(HasBoxes, half, Reads, half, (1, 2))
            self.refuses(HasBoxes, half, every_said, half, (1, 2))

    def test_numbers_above_are_one_less(self):
        program = Program(text_of("ask 0 0 a", "ask 2 2 b", "ask 1 1 c", "say 0"))
        for box, wanted in ((0, (1, 0)), (1, (0, 1)), (2, (0, 1))):
            house = House(Filled(program, box, AT_ONCE), (1, 2), (Task("0 : 0\n1 : 1\n2 : 2"),) * 2)
            asked = []
            while house.next(0) != ("say", 0):
                step = house.step(0, house.answers(0)[0] if house.next(0)[0] == "answer" else None)
                asked.append(step[1:])
            words = [word for word in (0, 2, 1) if word != box]
            self.same(asked, [part for number, word in zip(wanted, words) for part in (("ask", (number, word)), ("answer", (number, word)))])
            self.same([step[2][0] for step in outer(house)[0] if step[1] == "ask"], [0, 2, 1][:len(outer(house)[0]) // 2])

    def test_filled_in_either_sequence(self):
        one, other = Program(PAIR), Program(text_of("write row 1 mine", "look s", "say least s"))
        for words in ((1, 2), (2, 1), (3, None)):
            for seed in range(10):
                any_of = random.Random(seed)
                first = House(Filled(Filled(Program(TWO), 0, one), 0, other), words)
                last = House(Filled(Filled(Program(TWO), 1, other), 0, one), words)
                weaving = tuple([any_of.randrange(2) for _ in range(40)])
                first.weave(weaving)
                last.weave(weaving)
                self.same([first.said, [step[:2] for step in first.run]], [last.said, [step[:2] for step in last.run]])

                def parts(board):
                    return board if board is None else ((board[0] or (None, None))[0], (board[0] or (None, None))[1], board[1])

                def turned(board):
                    whole = parts(board)
                    return whole if whole is None else (whole[0], whole[2], whole[1])

                self.same([parts(board) for board in first.boards], [turned(board) for board in last.boards])

    def test_a_hand_that_never_comes_and_one_that_stops_amid(self):
        house = House(Filled(Program(ASKING), 0, Program(PAIR)), (None, 4))
        house.weave((0, 1, 1, 1))
        self.same(outer(house), (((1, "ask", (0, 4)), (1, "answer", (0, 4)), (1, "write", 4)), (0, 2, 2)))
        house = House(Filled(Program(ASKING), 0, Program(PAIR)), (3, 4))
        house.weave((0, 1, 1, 1, 1, 1))
        # Hand 0 has asked, and was not answered.
        self.same([outer(house)[0][0], [step for step in outer(house)[0] if step[0] == 0]], [(0, "ask", (0, 3)), [(0, "ask", (0, 3))]])

    def test_others_of_all_kinds(self):
        few = Played(Program(PAIR), 2)
        for other in (few, Tabled(2, 1, ((0, (1, None), 1),)), Filled(Program(ASKING), 0, Program(PAIR)), Played(Tabled(2, 1, ()), 2)):
            full = Filled(Program(ASKING), 0, other)
            house = House(full, (1, 2))
            house.weave((0, 1) * 60)
            self.same(None in house.said, False)
            self.same([judged(full, (1, 2), house.run), judged(full, (1, 2), house.run[1:])[0]], [("run",), "wrong"])
        house = House(Filled(Program(ASKING), 0, few), (3, 7))
        self.same(house.next(0), ("write", (None, ((None, None), ((0, 0, 1, 3),)))))

    def test_played_and_read(self):
        full = Filled(Program(ASKING), 0, Program(PAIR))
        house = House(Played(full, 2), (1, 2))
        for seed in range(20):
            any_of = random.Random(seed)
            house = House(Played(full, 2), (1, 2))
            for _ in range(40):
                house.weave((any_of.randrange(2),) * any_of.randint(1, 6))
                player = any_of.randrange(2)
                if any_of.random() < 0.2 and house.next(player) is not None:
                    forget(house, player)
            words, paper = told(house)
            self.same(judged(full, words, tuple([row[0] for row in paper])), ("run",))
            reads = Reads(full, (1, 2))
            reads.weave(tuple([any_of.randrange(2) for _ in range(60)]))
            run = plain_run(reads)
            self.same([shows_plain_run(reads, run), judged(full, (1, 2), run)], [True, ("run",)])
        self.refuses(TooMany, 2000, every_said, full, (1, 2))
        self.refuses(BadWords, (1,), House, full, (1,))
        self.refuses(BadWeaving, (2,), House(full, (1, 2)).weave, (2,))
        for value in (*NO_HANDS, 2):
            self.refuses(BadHand, value, House(full, (1, 2)).next, value)


def plain_of(any_of, deep=1):
    """A PROGRAM for two hands that asks no box, of any kind, and a plain one; how it is told."""
    kind = any_of.choice(["program", "program", "tabled", "played", "filled"] if deep else ["program", "tabled"])
    if kind == "program":
        text = any_of.choice([PAIR, LEAST, AT_ONCE.text, text_of("write mine", "look s", "write s", "look s", "say count part s me"),
                              text_of("write row 2 me mine", "wait s less 0 count s", "say least s")])
        return Program(text), PlainProgram(text)
    if kind == "tabled":
        number = any_of.randint(0, 2)
        return Tabled(2, number, ()), PlainTabled(2, number, ())
    inner, plain = plain_of(any_of, deep - 1)
    if kind == "played":
        return Played(inner, 2), PlainPlayed(plain, 2)
    asks, plain_asks = asking_of(any_of, 1)
    return Filled(asks, 0, inner), PlainFilled(plain_asks, 0, plain)


def asking_of(any_of, boxes):
    """A Program for two hands that asks so many boxes, each once at the most, and a plain one."""
    lines = []
    for box in any_of.sample(range(boxes), boxes):
        lines += any_of.sample(["write mine", "look s", "write a", "keep a plus a 1"], any_of.randint(0, 2))
        ask = f"ask {box} {any_of.choice(['mine', 'a', 'plus mine 1', 'none'])} a"
        lines += any_of.choice([[ask], [ask], ["if same me 0", ask, "end"], ["if less mine 2", ask, "else", "write 7", ask, "end"]])
    lines += any_of.sample(["write a", "look s", "write s"], any_of.randint(0, 3))
    if not any([f"ask {boxes - 1}" in line for line in lines]):
        lines.append(f"ask {boxes - 1} 0 a")
    text = text_of(*lines, any_of.choice(["say a", "say greatest row 2 a s"]))
    return Program(text), PlainProgram(text)


class Plainest(Case):
    def house_of(self, any_of):
        """A House of a Filled, and a PlainHouse."""
        boxes = any_of.randint(1, 3)
        program, plain = asking_of(any_of, boxes)
        for _ in range(any_of.randint(1, boxes)):
            box = any_of.randrange(program.boxes)
            inner, plain_inner = plain_of(any_of)
            program, plain = Filled(program, box, inner), PlainFilled(plain, box, plain_inner)
        words = tuple([any_of.choice([1, 2, 3, None]) if any_of.random() < 0.3 else any_of.randint(1, 3) for _ in range(2)])
        tasks = tuple([Task("\n".join([f"{word} : 0 1 2 3 | 5" for word in range(6)]))] * program.boxes)
        return House(program, words, tasks), PlainHouse(plain, words)

    def test_against_the_plainest_telling(self):
        shown = []
        for seed in range(150):
            any_of = random.Random(seed)
            house, plain = self.house_of(any_of)
            hand, told_before = 0, ((), ())
            for _ in range(70):
                hand = any_of.randrange(2) if any_of.random() < 0.4 else hand
                due = house.next(hand)
                self.same(due, plain.next(hand))
                if due is None:
                    continue
                answer = None
                if due[0] == "answer":
                    if not house.answers(hand):
                        continue
                    answer = any_of.choice(house.answers(hand))
                self.same(house.step(hand, answer), plain.step(hand, answer))
                if any_of.random() < 0.3:
                    house = house.copy()
                found = outer(house)
                self.same(found, plain_outer(plain))
                self.same([found[0][:len(told_before[0])], found[1][:len(told_before[1])]], list(told_before))
                told_before = found
            self.same([house.boards, house.said], [tuple(plain.boards), tuple(plain.said)])
            self.same([shows_outer(house, found), shows_outer(house=house, value=outer(house=house))], [True, True])
            for value in sampled(any_of, bent(found), 40) + some_values():
                shown.append(value == found and repr(value) == repr(found))
                self.same(shows_outer(house, value), shown[-1])
        self.assertGreater(shown.count(False), 1000)

    def test_outer_is_a_run_beside_right_boxes(self):
        """Guarantee (h)."""
        for seed in range(120):
            any_of = random.Random(seed)
            task = pairs_task(seed, 3, 4)
            if chosen(task)[0] == "none":
                task = Task(NEAR)
            right = made(task)
            words = tuple([any_of.choice([*task.words, None]) for _ in range(2)])
            first, _ = asking_of(any_of, 1)
            asks = Program(first.text.replace("ask 0 a", "ask 0 mine").replace("ask 0 plus mine 1", "ask 0 mine").replace("ask 0 none", "ask 0 mine"))
            full = Filled(asks, 0, right)
            house = House(full, words)
            for _ in range(30):
                house.weave((any_of.randrange(2),) * any_of.randint(1, 3))
                run, places = outer(house)
                self.same(judged(asks, words, run, (task,)), ("run",), (asks.text, task.text))
                self.same([len(places), list(places)], [len(run), sorted(places)])

    def test_not_filled(self):
        filled = House(Filled(Program(ASKING), 0, Program(PAIR)), (1, 2))
        for value in some_values() + [House(Played(filled.program, 2), (1, 2)), filled.program, (filled,), House]:
            self.refuses(NotFilled, value, outer, value)
            self.refuses(NotFilled, value, shows_outer, value, ((), ()))
        self.same(outer(filled), ((), ()))


class Names(Case):
    def test_boxes_with_other_numbers(self):
        text = text_of("ask 0 mine a", "write a", "ask 1 plus a 1 b", "look s", "say b")
        turned = text.replace("ask 0", "ask 9").replace("ask 1", "ask 0").replace("ask 9", "ask 1")
        one, other = Program(PAIR), Tabled(2, 1, ())
        for seed in range(20):
            any_of = random.Random(seed)
            houses = [House(Filled(Filled(Program(text), 0, one), 0, other), (1, 2)),
                      House(Filled(Filled(Program(turned), 1, one), 0, other), (1, 2))]
            weaving = tuple([any_of.randrange(2) for _ in range(any_of.randint(0, 30))])
            for house in houses:
                house.weave(weaving)
            self.same(houses[0].run, houses[1].run)


if __name__ == "__main__":
    unittest.main()
