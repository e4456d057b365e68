"""Point 16: all weavings; and guarantee (i) of point 3."""

import functools
import random
import unittest
from itertools import combinations, product
from math import factorial

from fewplaymany.boxes import Filled
from fewplaymany.errors import BadProgram, BadStops, BadWords, HasBoxes, NoProgram, NoWords, TooMany, Wide
from fewplaymany.every import every_said, shows_stuck, shows_wrong_weaving, stuck, wrong_weaving
from fewplaymany.houses import House
from fewplaymany.players import Played
from fewplaymany.programs import Program
from fewplaymany.tables import Tabled
from fewplaymany.tasks import judged_house, Task
from helpers import ASKING, bent, Case, LEAST, PAIR, programs_barred, ROUNDS, some_values, text_of
from plain import Maker
from plain_players import PlainHouse, PlainProgram
from plain_tables import PlainTabled
from test_chains import NEAR, sampled
from test_tables import ITS, MINE
from test_tasks import plainly_right

BOTH = text_of("write mine", "wait s less 1 count s", "say count s")
# Whoever comes waits for hand 0, which waits for nobody.
FIRST = text_of("if same me 0", "write 5", "say 1", "end", "wait s has s 5", "say 2", hands=3)
# Hand 0 waits for hand 1, and hand 1 for hand 0, if they saw nobody at first.
KNOT = text_of("look a", "if same count a 0", "wait s less 0 count s", "end", "write 1", "say count a")


class Walk:
    """Where plain hands stand: everything is tried out on it."""

    def __init__(self, text, words):
        self.text = text
        self.words = words
        self.steps = []

    def house(self):
        plain = PlainProgram(self.text) if isinstance(self.text, str) else PlainTabled(*self.text)
        house = PlainHouse(plain, self.words)
        for hand in self.steps:
            house.step(hand)
        return house


@functools.lru_cache(maxsize=None)
def tried_out(text, words, most_vain=1):
    """All (weaving, said, lot of hands with a STEP) of weavings in which nobody looks in vain more often in a row.

    A look is in vain if the hand's next is a look again, and it sees the same as before.
    """
    found = []
    many = len(words)
    ahead = [()]
    while ahead:
        weaving = ahead.pop()
        walk = Walk(text, words)
        walk.steps = list(weaving)
        house = walk.house()
        found.append((weaving, tuple(house.said), tuple(sorted({step[0] for step in house.run}))))
        for hand in range(many):
            own = [step for step in house.run if step[0] == hand]
            row = 0
            while row < len(own) and own[-1 - row][1] == "look" and own[-1 - row] == own[-1]:
                row += 1
            if house.next(hand) is not None and not (row > most_vain and house.next(hand) == ("look",) and own[-1][2] == tuple(house.boards)):
                ahead.append(weaving + (hand,))
    return found


def goes_on_by_turns(text, words, weaving, lot, rounds=12):
    """What is said behind a weaving, and then so many turns of all others but the lot."""
    walk = Walk(text, words)
    house = walk.house()
    for hand in weaving:
        if house.next(hand) is not None:
            house.step(hand)
    for _ in range(rounds):
        for hand in range(len(words)):
            if hand not in lot and house.next(hand) is not None:
                house.step(hand)
    return house.said


def small_program(seed):
    """A program of a seed that can be gone through, of two or three hands, and words for it."""
    any_of = random.Random(seed)
    many = any_of.choice((2, 2, 2, 3))
    wait = any_of.choice(("wait s less 1 count s", "wait s has s 5", "wait s not same part s 0 none", "wait s less 0 count s"))
    lines = any_of.sample(["write mine", "write me", "look s", wait, "write plus mine 1"], any_of.randint(1, 2))
    lines = any_of.choice([lines, ["if same me 0", *lines, "end"], ["if same me 1", *lines[:1], "else", *lines, "end"],
                           ["again 2", lines[0], "end"], ["if less mine 5", "say mine", "end", *lines],
                           ["look a", "if same count a 0", *lines[:1], "end"]])
    text = text_of(*lines, any_of.choice(["say count s", "say greatest s", "say mine", "say part s 1", "say me"]), hands=many)
    words = tuple([any_of.choice((3, 7, 5, 3, None)) if any_of.random() < 0.4 else any_of.choice((3, 7)) for _ in range(many)])
    return text, words


def is_small(text, words):
    """Whether the steps of a program are so few that all weavings are quickly tried out."""
    came = len([word for word in words if word is not None])
    return came * Program(text).steps <= 8


class EverySaid(Case):
    def test_one_hand(self):
        self.same(every_said(Program("hands 1\nsay mine"), (5,)), ((-1,), (5,)))
        self.same(every_said(program=Program("hands 1\nwrite mine\nsay 7"), words=(5,)), ((-1,), (7,)))
        self.same(every_said(Program("hands 1\nwait s less 1 count s\nsay 7"), (5,)), ((-1,),))
        self.same(every_said(Program("hands 1\nwrite mine"
                                     "\nagain 9\nlook s\nlook s\nlook s\nend\nsay 7"), (None,)), ((-1,),))

    def test_who_never_comes(self):
        self.same(every_said(Program(BOTH), (3, None)), ((-1, -1),))
        self.same(every_said(Program(BOTH), (3, 7)), ((-1, -1), (-1, 2), (2, -1), (2, 2)))
        self.same(every_said(Program(FIRST), (3, None, 7)), ((-1, -1, -1), (-1, -1, 2), (1, -1, -1), (1, -1, 2)))
        self.same(every_said(Program(FIRST), (None, 3, 7)), ((-1, -1, -1),))

    def test_a_table(self):
        tabled = Tabled(2, 1, MINE + ITS)
        self.same(every_said(tabled, (0, 3)),
                  ((-1, -1), (-1, 1), (-1, 3), (0, -1), (0, 1), (2, -1), (2, 1), (2, 3)))
        self.same(every_said(Tabled(3, 0, ((0, 4, 1), (2, 4, 2))), (4, None, 4)), ((-1, -1, -1), (-1, -1, 2), (1, -1, -1), (1, -1, 2)))

    def test_against_trying_out(self):
        for seed in range(300):
            text, words = small_program(seed)
            if is_small(text, words):
                rows = {tuple([-1 if word is None else word for word in said]) for _, said, _ in tried_out(text, words)}
                self.same(every_said(Program(text), words), tuple(sorted(rows)), (text, words))

    def test_tables_against_trying_out(self):
        for seed in range(12):
            any_of = random.Random(seed)
            many, number = any_of.choice(((1, 2), (2, 1), (3, 0), (1, 0), (2, 0)))
            table = Tabled(many, number, ()).table
            words = tuple([any_of.choice((0, 3, None)) for _ in range(many)])
            if many == 2 and number == 1:
                table = MINE + ITS
            rows = {tuple([-1 if word is None else word for word in said]) for _, said, _ in tried_out((many, number, table), words)}
            self.same(every_said(Tabled(many, number, table), words), tuple(sorted(rows)))

    def test_each_row_of_a_weaving_is_told(self):
        for seed in range(60):
            any_of = random.Random(seed)
            text = any_of.choice((ROUNDS.replace("again 2", "again 1"), LEAST, KNOT, FIRST, text_of("write mine", "look a", "write a", "look b", "say count part b 0")))
            program = Program(text)
            words = tuple([any_of.choice((1, 2, 9)) for _ in range(program.many)])
            rows = every_said(program, words)
            house = House(program, words)
            for _ in range(30):
                self.assertIn(tuple([-1 if word is None else word for word in house.said]), rows)
                house.weave((any_of.randrange(program.many),))


class Counts(Case):
    """The greatest numbers of weavings that are let, and the first ones that are too many."""

    def looks(self, count):
        """Lines of so many looks."""
        if count <= 9:
            return [f"again {count}", "look s", "end"] if count else []
        return ["again 9", *self.looks(count // 9), "end", *self.looks(count % 9)]

    def let(self, program, words, wanted):
        task = Task("\n".join([f"{word} : 0" for word in {word for word in words if word is not None} or {1}]))
        for call, value in ((every_said, ()), (wrong_weaving, (task,)), (stuck, (0,))):
            args = (program, *value, words) if call is wrong_weaving else (program, words, *value)
            if wanted:
                call(*args)
            else:
                self.refuses(TooMany, 2000, call, *args)

    def test_how_many(self):
        for many, words, steps in ((1, (1,), 200), (2, (1, None), 200), (2, (1, 1), 6), (3, (1, 1, 1), 3), (3, (None, 2, 2), 6), (4, (1,) * 4, 1),
                                   (5, (1,) * 5, 1), (6, (1,) * 6, 1), (6, (None,) * 6, 200), (6, (1, None, None, None, None, 1), 6)):
            came = len([word for word in words if word is not None])
            for count, wanted in ((steps, True), (steps + 1, False)):
                if count > 200:
                    continue
                number = factorial(came * count) // factorial(count) ** came
                self.same(number <= 2000 if came > 1 else True, wanted if came > 1 else True, (many, words, count))
                text = text_of(*self.looks(count - 1), "say 0", hands=many)
                self.same(Program(text).steps, count)
                self.let(Program(text), words, wanted)

    def test_the_greatest_of_any_way_counts(self):
        long = text_of("if same me 5", "again 6", "look s", "end", "end", "say 0")
        self.let(Program(long), (1, 1), False)
        self.let(Program(long.replace("again 6", "again 5")), (1, 1), True)

    def test_waits_that_take_more_steps(self):
        # A wait counts one: two hands of six steps, and some of them in vain.
        text = text_of("write 1", "wait s less 1 count s", "write 2", "wait s not or less part s 0 2 less part s 1 2", "write 3", "say 1")
        self.same(Program(text).steps, 6)
        self.same([every_said(Program(text), (1, 1))[-1], stuck(Program(text), (1, 1), 0)], [(1, 1), None])
        weaving, lot = stuck(Program(text), (1, 1), 1)
        self.same(shows_stuck(Program(text), (1, 1), 1, (weaving, lot)), True)

    def test_tables(self):
        for many, words, number, wanted in ((1, (1,), 3, True), (2, (1, 1), 2, True), (2, (1, 1), 3, False), (2, (1, None), 3, True), (3, (1, 1, 1), 1, True),
                                            (3, (1, 1, 1), 2, False), (3, (1, None, 1), 2, True), (3, (None, None, 1), 3, True)):
            self.let(Tabled(many, number, ()), words, wanted)

    def test_played_and_filled(self):
        for program in (Played(Program(PAIR), 1), Played(Program(PAIR), 2), Filled(Program(ASKING), 0, Program(PAIR)),
                        Played(Tabled(2, 0, ()), 2), Filled(Program(ASKING), 0, Tabled(2, 0, ()))):
            self.let(program, (1,) * program.many, False)
            self.let(program, (None,) * program.many, False)


class Wrong(Case):
    def test_against_trying_out(self):
        kinds, any_of = [], random.Random(16)
        for seed in range(300):
            text, words = small_program(seed)
            if not is_small(text, words):
                continue
            program = Program(text)
            ends = any_of.choice(["3 5 7", "0 1 2", "0 1 2 3 5 7", "1 | 3 | 7", "0 1 | 2 3 7"])
            task = Task("\n".join([f"{word} : {any_of.choice(ends.split(' | '))}" for word in (3, 5, 7)] + [f"3 7 : {ends}"]))
            wrong = []
            for weaving, said, began in tried_out(text, words):
                row = [word for word in said if word is not None]
                if row and not plainly_right(task, [words[hand] for hand in began], row):
                    wrong.append(weaving)
            least = min([len(weaving) for weaving in wrong], default=None)
            shortest = [weaving for weaving in wrong if len(weaving) == least]
            value = wrong_weaving(program, task, words)
            kinds.append(value is None)
            self.same(value is None, not wrong, (text, task.text, words))
            self.assertTrue(value is None or value in shortest, (text, words))
            self.same([shows_wrong_weaving(program, task, words, one) for one in (value, None)], [True, not wrong])
            for other in sampled(any_of, bent(value), 20) + sampled(any_of, wrong, 15):
                right = other in shortest and repr(other) in [repr(one) for one in shortest] or other is None and not wrong
                self.same(shows_wrong_weaving(program, task, words, other), right, (text, task.text, words, other))
        self.assertGreater(min(kinds.count(True), kinds.count(False)), 20)

    def test_shortest_ones_and_others(self):
        task = Task("3 : 3\n7 : 7\n3 7 : 3 | 7")
        value = wrong_weaving(program=Program(PAIR), task=task, words=(3, 7))
        self.same([len(value), judged_house(task, self.behind(value))], [6, (3, 7)])
        for weaving, wanted in (((0, 0, 0, 1, 1, 1), True), ((0, 0, 1, 1, 1, 0), True), ((0, 0, 1, 0, 1, 1), True), ((0, 1, 0, 0, 1, 1), False),
                                ((1, 1, 1, 0, 0, 0), False), ((0, 0, 0, 1, 1), False), ((0, 0, 0, 1, 1, 1, 1), False), ((0, 0, 0, 0, 1, 1, 1), False),
                                ((), False), ([0, 0, 0, 1, 1, 1], False), ((False, 0, 0, 1, 1, 1), False), ((0, 0, 0, 1, 1, 2), False), (None, False),
                                ((0, 0, 0, True, 1, 1), False)):
            self.same(shows_wrong_weaving(program=Program(PAIR), task=task, words=(3, 7), value=weaving), wanted, weaving)
            if wanted:
                self.same(judged_house(task, self.behind(weaving)), (3, 7))
        for value in some_values():
            self.same(shows_wrong_weaving(Program(PAIR), task, (3, 7), value), False)
            self.same(shows_wrong_weaving(Program(PAIR), task, (7, 7), value), value is None)

    def behind(self, weaving):
        house = House(Program(PAIR), (3, 7))
        house.weave(weaving)
        return house

    def test_what_is_said_ahead_of_who_brings(self):
        # Hand 0 says 7 at once, which is right only if hand 1 has begun.
        program = Program(text_of("if same me 0", "say 7", "end", "look s", "look s", "say 7"))
        task = Task("3 : 3\n7 : 7\n3 7 : 3 | 7")
        self.same(wrong_weaving(program, task, (3, 7)), (0,))
        # Hand 1's look in vain is a step, too: it has brought its word by it.
        program = Program(text_of("if same me 0", "wait s has s 1", "say 7", "end", "look s", "write 1", "look s", "say 7"))
        self.same(wrong_weaving(program, task, (3, 7)), None)

    def test_tables(self):
        task = Task(NEAR)
        self.same(wrong_weaving(Tabled(2, 1, MINE + ITS), task, (0, 3)), None)
        for words in product((0, 3, None), repeat=2):
            for at in range(len(MINE)):
                tabled = Tabled(2, 1, MINE[:at] + MINE[at + 1:] + ITS)
                value = wrong_weaving(tabled, task, words)
                if value is not None:
                    house = House(tabled, words)
                    house.weave(value)
                    self.same(judged_house(task, house) is None, False)
                self.same(shows_wrong_weaving(tabled, task, words, value), True)

    def test_errors_in_sequence(self):
        task = Task("3 : 3\n7 : 7")
        for value in programs_barred():
            self.refuses(NoProgram, value, wrong_weaving, value, task, None)
            self.refuses(NoProgram, value, shows_wrong_weaving, value, task, None, None)
        self.refuses(HasBoxes, Program(ASKING), wrong_weaving, Program(ASKING), task, None)
        few = Played(Program(PAIR), 2)
        for words in ((1,), (1, 2, 3), [1, 2], None, (1, True), (1, 100), (1, "2")):
            self.refuses(BadWords, words, wrong_weaving, Program(PAIR), task, words)
            self.refuses(BadWords, words, wrong_weaving, few, task, words)
        for words, lot in (((3, 8), (3, 8)), ((8, None), (8,)), ((8, 3), (3, 8)), ((9, 9), (9,))):
            self.refuses(NoWords, lot, wrong_weaving, Program(PAIR), task, words)
            self.refuses(NoWords, lot, wrong_weaving, few, task, words)
            self.refuses(NoWords, lot, shows_wrong_weaving, Program(PAIR), task, words, None)
        self.refuses(TooMany, 2000, wrong_weaving, few, task, (3, 7))
        self.refuses(TooMany, 2000, shows_wrong_weaving, few, task, (3, 7), None)
        self.refuses(TooMany, 2000, wrong_weaving, few, task, (None, None))
        self.same(wrong_weaving(Program(PAIR), task, (None, None)), None)


class Stuck(Case):
    def test_against_trying_out(self):
        kinds, any_of = [], random.Random(5)
        for seed in range(300):
            text, words = small_program(seed)
            if not is_small(text, words):
                continue
            program = Program(text)
            came = [hand for hand, word in enumerate(words) if word is not None]
            weavings = [row[0] for row in tried_out(text, words)]
            for stops in range(program.many):
                lots = [lot for size in range(stops + 1) for lot in combinations(came, size)]
                all_stuck = {(weaving, lot) for weaving in weavings for lot in lots if self.is_stuck(text, words, weaving, lot)}
                value = stuck(program, words, stops)
                kinds.append(value is None)
                self.same(value is None, not all_stuck, (text, words, stops))
                if value is not None:
                    self.assertTrue(len(value[1]) <= stops and set(value[1]) <= set(came) and self.is_stuck(text, words, *value), (text, words))
                self.same([shows_stuck(program, words, stops, one) for one in (value, None)], [True, not all_stuck])
                for weaving in sampled(any_of, weavings, 6):
                    for lot in combinations(range(program.many), min(stops + any_of.randint(-1, 1), program.many)) if stops else [()]:
                        right = len(lot) <= stops and set(lot) <= set(came) and self.is_stuck(text, words, weaving, lot)
                        self.same(shows_stuck(program, words, stops, (weaving, lot)), right, (text, words, stops, weaving, lot))
        self.assertGreater(min(kinds.count(True), kinds.count(False)), 30)

    def is_stuck(self, text, words, weaving, lot):
        said = goes_on_by_turns(text, words, weaving, lot)
        return any(said[hand] is None for hand, word in enumerate(words) if word is not None and hand not in lot)

    def test_no_stop(self):
        self.same([stuck(Program(BOTH), (3, 7), 0), stuck(program=Program(BOTH), words=(3, 7), stops=0)], [None, None])
        # Whoever never comes is no stop: hand 0 waits for ever.
        self.same([stuck(Program(BOTH), (3, None), 0), stuck(Program(BOTH), (None, None), 1)], [((0,), ()), None])
        self.same(shows_stuck(Program(KNOT), (3, 7), 0, ((0, 1), ())), True)
        self.same([shows_stuck(Program(KNOT), (3, 7), 0, (weaving, ())) for weaving in ((0,), (), (0, 1, 0, 1), (0, 0, 0, 1))], [True, True, True, True])
        self.same(stuck(Program(PAIR), (3, 7), 1), None)
        self.same([stuck(Tabled(2, 1, ()), (3, 7), 1), stuck(Tabled(3, 1, ()), (3, 7, 5), 2)], [None, None])

    def test_one_stop_and_two(self):
        three = Program(text_of("write 1", "wait s less 1 count s", "say 1", hands=3))
        self.same([stuck(three, (3, 7, 5), 0), stuck(three, (3, 7, 5), 1)], [None, None])
        weaving, lot = stuck(three, (3, 7, 5), 2)
        self.same([len(lot), shows_stuck(three, (3, 7, 5), 2, (weaving, lot))], [2, True])
        for value, wanted in ((((), (1, 2)), True), (((0,), (1, 2)), True), (((1,), (1, 2)), False), (((), (1,)), False), (((), (0, 1)), True), (((), (0, 1, 2)), False),
                              (((), (2, 1)), False), (((), [1, 2]), False), (((), (1, 3)), False), (((3,), (1, 2)), False), (([], (1, 2)), False),
                              (((), (True, 2)), False), (((), (1, 2), None), False), ([(), (1, 2)], False), (None, False), (((0,) * 3000, (1, 2)), True), (((0,) * 3001, (1, 2)), False)):
            self.same(shows_stuck(program=three, words=(3, 7, 5), stops=2, value=value), wanted, value)
        self.same([shows_stuck(three, (3, 7, 5), 1, ((), (1, 2))), shows_stuck(three, (3, None, 5), 1, ((), (1,))), shows_stuck(three, (3, None, 5), 1, ((), (2,)))],
                  [False, False, True])
        for value in some_values():
            self.same(shows_stuck(three, (3, 7, 5), 2, value), False)
            self.same(shows_stuck(three, (3, 7, 5), 1, value), value is None)

    def test_who_looks_in_vain_for_a_while(self):
        late = Program(text_of("if same me 0", "look a", "look a", "write 5", "say 1", "end", "wait s has s 5", "say 2"))
        for weaving in ((), (1,), (1, 1, 1), (0, 1), (0, 0, 1)):
            self.same([shows_stuck(late, (3, 7), 0, (weaving, ())), shows_stuck(late, (3, 7), 1, (weaving, (0,)))], [False, True])
        turned = Program(late.text.replace("me 0", "me 1"))
        self.same([shows_stuck(turned, (3, 7), 0, ((0,), ())), stuck(turned, (3, 7), 0), shows_stuck(turned, (3, 7), 1, ((1, 1, 1), (1,)))], [False, None, False])

    def test_lots_of_hands_that_come(self):
        program = Program(FIRST)
        self.same([stuck(program, (3, 7, None), 0), shows_stuck(program, (3, 7, None), 1, ((), (0,))), shows_stuck(program, (3, 7, None), 1, ((), (2,)))],
                  [None, True, False])
        # Who has said may be in the lot; it holds nobody back.
        self.same([shows_stuck(program, (3, 7, 5), 2, value) for value in (((0, 0), (0, 1)), ((0,), (0, 1)), ((), (0, 1)), ((), (1, 2)))],
                  [False, False, True, False])

    def test_errors_in_sequence(self):
        for value in programs_barred():
            self.refuses(NoProgram, value, stuck, value, None, None)
            self.refuses(NoProgram, value, every_said, value, None)
            self.refuses(NoProgram, value, shows_stuck, value, None, None, None)
            self.refuses(NoProgram, value, shows_stuck, value, None, None, ())
        half = Filled(Program(text_of("ask 0 1 a", "ask 1 1 a", "say a")), 0, Program(PAIR))
        for program in (Program(ASKING), half):
            self.refuses(HasBoxes, program, stuck, program, None, None)
            self.refuses(HasBoxes, program, every_said, program, None)
        few = Played(Program(PAIR), 2)
        for words in ((1,), (1, 2, 3), [1, 2], None, (1, True), (1, 100), (1, "2")):
            self.refuses(BadWords, words, stuck, few, words, None)
            self.refuses(BadWords, words, every_said, few, words)
            self.refuses(BadWords, words, every_said, Program(PAIR), words)
        for stops in (-1, 2, True, False, None, "0", (0,), 1.0, []):
            self.refuses(BadStops, stops, stuck, few, (1, 2), stops)
            self.refuses(BadStops, stops, shows_stuck, few, (1, 2), stops, None)
        self.refuses(TooMany, 2000, stuck, few, (1, 2), 1)
        self.refuses(TooMany, 2000, shows_stuck, few, (1, 2), 1, None)
        self.refuses(TooMany, 2000, shows_stuck, few, (1, 2), 1, "none")
        self.refuses(BadStops, 2, shows_stuck, few, (1, 2), 2, ((), ()))
        self.refuses(BadWords, (1,), shows_stuck, few, (1,), 2, ((), ()))
        self.refuses(BadStops, 1, stuck, Program("hands 1\nsay 0"), (1,), 1)


class AllWeavings(Case):
    """Guarantee (i)."""

    def test_what_is_told_as_possible_comes_and_nothing_else(self):
        for seed in range(200):
            text = Maker(seed).program()
            try:
                program = Program(text)
            except (BadProgram, Wide):
                continue
            any_of = random.Random(seed)
            words = tuple([any_of.choice((1, 2, None)) for _ in range(program.many)])
            if program.boxes or not text.startswith(("hands 1", "hands 2", "hands 3")):
                continue
            try:
                rows = every_said(program, words)
            except TooMany:
                continue
            task = Task("1 : 0 1 2 3 | 4\n2 : 5 6")
            weaving, blocked = wrong_weaving(program, task, words), stuck(program, words, 0)
            for _ in range(20):
                house = House(program, words)
                for _ in range(12):
                    house.weave((any_of.randrange(program.many),) * any_of.randint(1, 3))
                    self.assertIn(tuple([-1 if word is None else word for word in house.said]), rows)
                    if weaving is None and [word for word in house.said if word is not None]:
                        self.same(judged_house(task, house), None)
                if blocked is None:
                    house.weave(tuple(range(program.many)) * 250)
                    self.same([hand for hand, word in enumerate(words) if word is not None and house.said[hand] is None], [])


if __name__ == "__main__":
    unittest.main()
