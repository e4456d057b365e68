"""Point 6: looks of single reads; and guarantee (e) of point 3."""

import random
import unittest

from fewplaymany.errors import BadHand, BadProgram, BadWeaving, BadWords, Done, HasBoxes, NoProgram, Wide
from fewplaymany.houses import House
from fewplaymany.players import Played
from fewplaymany.programs import Program
from fewplaymany.reads import plain_run, Reads, shows_plain_run, spans
from fewplaymany.runs import judged
from helpers import ASKING, Case, LEAST, NO_HANDS, PAIR, programs_barred, some_values, text_of
from plain import Maker
from plain_reads import is_plain_run, PlainReads
from test_houses import NO_WORDS

TWICE = text_of("write mine", "write plus mine 1", "look seen", "say count seen")
ROUND = text_of("write mine", "look a", "write row 2 mine count a", "look b", "say count b", hands=3)
SILENT = text_of("again 9", "write mine", "end", "say 1")


def state(reads):
    """All that a Reads tells of itself."""
    dues = [reads.next(hand) for hand in range(reads.program.many)]
    return (reads.words, reads.boards, reads.said, reads.run, len(reads), dues, spans(reads))


def woven(seed, text, words, many, times):
    """A Reads of a program, woven in bursts of a seed."""
    any_of = random.Random(seed)
    reads = Reads(Program(text), words)
    weaving = []
    while len(weaving) < times:
        weaving += [any_of.randrange(many)] * any_of.choice([1, 1, 2, 5, 9])
    reads.weave(tuple(weaving[:times]))
    return reads


class Making(Case):
    def test_properties(self):
        reads = Reads(program=Program(PAIR), words=(4, None))
        self.same(reads.program, Program(PAIR))
        self.same([reads.words, reads.boards, reads.said, reads.run, len(reads)],
                  [(4, None), ((0, None, None), (0, None, None)), (None, None), (), 0])

    def test_errors_in_sequence(self):
        for value in programs_barred():
            self.refuses(NoProgram, value, Reads, value, None)
        for words in (None, (1, 2), (1,)):
            self.refuses(HasBoxes, Program(ASKING), Reads, Program(ASKING), words)
        for words in NO_WORDS:
            self.refuses(BadWords, words, Reads, Program(PAIR), words)
        self.same(Reads(Played(Program(PAIR), 3), (1, 2, 3)).next(2), ("read", 0))

    def test_equality(self):
        one, other = Reads(Program(PAIR), (4, 7)), Reads(Program(PAIR), (4, 7))
        self.equal(one, other)
        one.step(0)
        self.unequal(one, other)
        other.step(0)
        self.equal(one, other)
        self.unequal(one, Reads(Program(PAIR), (4, 7)))
        self.unequal(Reads(Program(PAIR), (4, 7)), Reads(Program(PAIR), (4, 8)))
        self.unequal(Reads(Program(PAIR), (4, 7)), Reads(Program(LEAST), (4, 7)))
        for value in some_values() + [House(Program(PAIR), (4, 7)), one.run]:
            if not isinstance(value, Reads):
                self.unequal(Reads(Program(PAIR), (4, 7)), value)

    def test_operators(self):
        self.no_operators(Reads(Program(PAIR), (4, 7)))


class Steps(Case):
    def test_a_look_alone(self):
        reads = Reads(Program(text_of("look s", "say count s")), (4, 7))
        self.same(reads.weave((1, 1, 1)), ((1, "read", (0, (0, None, None))), (1, "read", (1, (0, None, None))),
                                            (1, "read", (0, (0, None, None)))))
        self.same([spans(reads), reads.next(1)], [(), ("read", 1)])
        self.same([reads.step(hand=1), reads.next(1)], [(1, "read", (1, (0, None, None))), ("say", 0)])
        self.same(spans(reads), ((1, "look", ((0, None), (0, None)), 0, 3),))
        self.same([reads.step(1), reads.said, reads.next(1)], [(1, "say", 0), (None, 0), None])
        self.same(spans(reads)[1:], ((1, "say", 0, 4, 4),))
        self.refuses(Done, 1, reads.step, 1)
        self.same(reads.weave((1, 1, 1)), ())

    def test_a_write_alone(self):
        reads = Reads(Program(TWICE), (4, None))
        self.same([reads.weave((0,) * 4)[-1], reads.next(0), reads.boards[0]],
                  [(0, "read", (1, (0, None, None))), ("write", 4), (0, None, None)])
        self.same([reads.step(0), reads.boards[0]], [(0, "write", 4), (1, 4, ((0, None), (0, None)))])
        self.same(spans(reads), ((0, "write", 4, 0, 4),))
        self.same(reads.weave((0,) * 5)[0], (0, "read", (0, (1, 4, ((0, None), (0, None))))))
        self.same(reads.boards[0], (2, 5, ((1, 4), (0, None))))
        self.refuses(Done, 1, reads.step, 1)
        self.same(reads.next(1), None)

    def test_one_hand(self):
        reads = Reads(Program(text_of("write mine", "look s", "say greatest s", hands=1)), (8,))
        self.same(reads.weave((0,) * 9), (
            (0, "read", (0, (0, None, None))), (0, "read", (0, (0, None, None))), (0, "write", 8),
            (0, "read", (0, (1, 8, ((0, None),)))), (0, "read", (0, (1, 8, ((0, None),)))), (0, "say", 8)))
        self.same(spans(reads), ((0, "write", 8, 0, 2), (0, "look", ((1, 8),), 3, 4), (0, "say", 8, 5, 5)))

    def test_a_board_that_moves_once(self):
        reads = Reads(Program(text_of("if same me 0", "look s", "else", "write 5", "end", "say count s")), (1, 2))
        reads.weave((0, 0) + (1,) * 5 + (0, 0))
        # The second round is unlike the first one; the third is like the second one.
        self.same([spans(reads), reads.next(0)], [((1, "write", 5, 2, 6),), ("read", 0)])
        reads.weave((0, 0))
        self.same(spans(reads)[1:], ((0, "look", ((0, None), (1, 5)), 0, 10),))
        self.same(plain_run(reads), ((1, "write", 5), (0, "look", (None, 5))))

    def test_a_board_that_moves_twice_brings_its_look_along(self):
        reads = Reads(Program(text_of("if same me 0", "look s", "else", "write 5", "write 6", "write 7", "end", "say count s")), (1, 2))
        reads.weave((0, 0) + (1,) * 5 + (0, 0) + (1,) * 5 + (0, 0))
        self.same(spans(reads)[-1], (0, "look", ((0, None), (1, 5)), 0, 15))
        self.same([reads.boards[1], reads.next(0)], [(2, 6, ((0, None), (1, 5))), ("say", 1)])
        self.same(plain_run(reads), ((1, "write", 5), (0, "look", (None, 5)), (1, "write", 6)))

    def test_two_boards_that_move_once_are_not_one_that_moves_twice(self):
        text = text_of("if same me 0", "look s", "else", "write me", "write 9", "end", "say count s", hands=3)
        reads = Reads(Program(text), (1, 2, 3))
        reads.weave((0,) * 3 + (1,) * 7 + (0,) * 3 + (2,) * 7 + (0,) * 3)
        self.same([len(spans(reads)), reads.next(0)], [2, ("read", 0)])
        reads.weave((0,) * 3)
        self.same(spans(reads)[-1][2], ((0, None), (1, 1), (1, 2)))

    def test_the_first_board_that_moved_twice(self):
        text = text_of("if same me 0", "look s", "else", "write me", "write 9", "end", "say count s", hands=3)
        reads = Reads(Program(text), (1, 2, 3))
        # Both move at the second and at the third round; the later one of them brings a newer LOOK.
        reads.weave((0,) * 3 + (1,) * 7 + (2,) * 7 + (0,) * 3 + (1,) * 7 + (2,) * 7 + (0,) * 3)
        self.same(reads.boards[1:], ((2, 9, ((0, None), (1, 1), (1, 2))), (2, 9, ((0, None), (2, 9), (1, 2)))))
        self.same(spans(reads)[-1][:3], (0, "look", ((0, None), (1, 1), (1, 2))))

    def test_a_look_that_was_brought_along_twice(self):
        """Hand 2's LOOK goes along with hand 1's write to hand 0, which takes it, though hand 3 wrote since."""
        text = text_of("if same me 0", "look s", "else", "again 9", "write me", "end", "end", "say count s", hands=4)
        reads = Reads(Program(text), (1, 2, 3, 4))
        reads.weave((0,) * 4 + (1,) * 9 + (0,) * 4)
        reads.weave((1,) * 4 + (2,) * 17 + (3,) * 9 + (1,) * 4 + (2,) + (1,) * 4)
        self.same(reads.next(1), ("write", 1))
        reads = reads.copy()
        reads.weave((1,) + (0,) * 4)
        self.same(spans(reads)[-1][:3], (0, "look", ((0, None), (1, 1), (1, 2), (0, None))))
        self.same(plain_run(reads), ((1, "write", 1), (2, "write", 2), (0, "look", (None, 1, 2, None)), (3, "write", 3), (2, "write", 2),
                                     (1, "write", 1)))
        self.same(shows_plain_run(reads, plain_run(reads)), True)

    def test_at_most_so_many_reads(self):
        for many in (1, 2, 3, 4):
            text = text_of("if same me 0", "look s", "else", "again 9", "write me", "end", "end", "say count s", hands=many)
            most = 0
            for seed in range(60):
                any_of = random.Random(seed)
                reads = Reads(Program(text), (1,) * many)
                for _ in range(9):
                    reads.weave((0,) * any_of.randint(0, many))
                    for hand in any_of.sample(range(1, many), any_of.randint(0, many - 1)):
                        reads.weave((hand,) * (2 * many + 1))
                reads.weave((0,) * 99)
                most = max(most, len([step for step in reads.run if step[:2] == (0, "read")]))
            self.assertLessEqual(most, (many + 1) * many)
            self.assertGreaterEqual(most, 2 * many + (many > 1))

    def test_who_stops(self):
        reads = Reads(Program(PAIR), (4, 7))
        reads.weave((0, 0, 0) + (1,) * 20)
        self.same([reads.said, reads.boards[0], reads.next(0)], [(None, 7), (0, None, None), ("read", 1)])
        self.same([row[:2] for row in spans(reads)], [(1, "write"), (1, "look"), (1, "say")])
        reads = Reads(Program(PAIR), (4, 7))
        reads.weave((0,) * 7 + (1,) * 20)
        self.same([reads.said, [row[:2] for row in spans(reads)]], [(None, 7), [(0, "write"), (1, "write"), (1, "look"), (1, "say")]])
        for value in (plain_run(reads), plain_run(reads)[1:]):
            self.same(shows_plain_run(reads, value), value == plain_run(reads))

    def test_nobody_comes(self):
        reads = Reads(Program(PAIR), (None, None))
        self.same([reads.weave((0, 1) * 9), reads.next(0), spans(reads), plain_run(reads), len(reads)], [(), None, (), (), 0])
        self.same([shows_plain_run(reads, ()), shows_plain_run(reads, ((0, "write", 4),))], [True, False])

    def test_errors(self):
        reads = Reads(Program(PAIR), (4, None))
        reads.weave((0, 0))
        before = state(reads)
        for value in (*NO_HANDS, 2):
            self.refuses(BadHand, value, reads.next, value)
            self.refuses(BadHand, value, reads.step, value)
        for value in (None, 0, [0], (2,), (True,), ("0",), (0,) * 3001, (0, None), "00"):
            self.refuses(BadWeaving, value, reads.weave, value)
        self.refuses(Done, 1, reads.step, 1)
        self.same(state(reads), before)
        self.same([reads.weave(weaving=()), reads.next(hand=0)], [(), ("read", 0)])
        self.same(len(reads.weave((0,) * 3000)), 8)

    def test_copies(self):
        for seed in range(30):
            reads = woven(seed, ROUND, (1, 2, 3), 3, 5 * seed)
            before = state(reads)
            copy = reads.copy()
            self.equal(copy, reads)
            self.same(state(copy), before)
            steps = copy.weave((0, 1, 2, 2, 1, 0, 0) * 8)
            self.same(state(reads), before)
            self.same(reads.weave((0, 1, 2, 2, 1, 0, 0) * 8), steps)
            self.same(state(copy), state(reads))
            self.same(plain_run(copy), plain_run(reads))

    def test_against_the_plainest_telling(self):
        steps = 0
        for seed in range(250):
            maker = Maker(seed)
            text = maker.program() if seed % 3 else (TWICE, ROUND, PAIR)[seed // 3 % 3]
            try:
                program = Program(text)
            except (BadProgram, Wide):
                continue
            if program.boxes:
                self.refuses(HasBoxes, program, Reads, program, None)
                continue
            any_of = maker.any
            words = tuple([any_of.choice([None, 1, 2, 3, 4]) for _ in range(program.many)])
            reads, plain = Reads(program, words), PlainReads(text, words)
            hand = 0
            for _ in range(150):
                hand = any_of.randrange(program.many) if any_of.random() < 0.4 else hand
                self.same(reads.next(hand), plain.next(hand), text)
                if plain.next(hand) is None:
                    self.refuses(Done, hand, reads.step, hand)
                else:
                    self.same(reads.step(hand), plain.step(hand), text)
                    steps += 1
                    if any_of.random() < 0.1:
                        reads = reads.copy()
            self.same([reads.boards, reads.said, reads.run, len(reads), spans(reads)],
                      [tuple(plain.boards), tuple(plain.said), tuple(plain.run), len(plain.run), tuple(plain.spans)])
            found = plain_run(reads)
            self.assertTrue(is_plain_run(program.many, spans(reads), found))
            self.same([shows_plain_run(reads, found), judged(program, words, found)], [True, ("run",)])
        self.assertGreater(steps, 5000)

    def test_of_played_programs(self):
        few = Played(Program(PAIR), 2)
        for seed in range(20):
            any_of = random.Random(seed)
            reads = Reads(few, (3, 7))
            for _ in range(60):
                reads.weave((any_of.randrange(2),) * any_of.choice([1, 3, 6]))
            found = plain_run(reads)
            self.same([shows_plain_run(reads, found), judged(few, (3, 7), found)], [True, ("run",)])
            self.assertTrue(is_plain_run(2, spans(reads), found))
            self.same(shows_plain_run(reads, found + ((0, "forget", None),)), False)
            self.same(shows_plain_run(reads, ((0, "forget", None),) + found), False)


class PlainRuns(Case):
    def test_spans_are_kept(self):
        """Of two writes the one that ended ahead of the other's beginning stands ahead."""
        text = text_of("write mine", "say 1")
        reads = Reads(Program(text), (4, 7))
        reads.weave((0,) * 6 + (1,) * 6)
        one, other = ((0, "write", 4), (0, "say", 1)), ((1, "write", 7), (1, "say", 1))
        self.same(plain_run(reads), one + other)
        self.same([shows_plain_run(reads, value) for value in (one + other, other + one, one[:1] + other[:1] + one[1:] + other[1:])],
                  [True, False, False])
        reads = Reads(Program(text), (4, 7))
        reads.weave((0,) + (1,) * 6 + (0,) * 6)
        self.same([shows_plain_run(reads, value) for value in
                   (one + other, other + one, one[:1] + other + one[1:], other[:1] + one + other[1:])], [False, True, True, False])
        # The end of one and the beginning of the other are never at one step; a say is both.
        self.same(spans(reads)[1][3:], (6, 6))

    def test_by_name(self):
        reads = woven(1, PAIR, (4, 7), 2, 9)
        self.same(shows_plain_run(reads=reads, value=plain_run(reads=reads)), True)
        self.same(spans(reads=reads), spans(reads))

    def test_any_value(self):
        reads = woven(1, PAIR, (4, 7), 2, 30)
        run = plain_run(reads)
        for value in some_values() + [list(run), run[0], run + (None,), (None,) + run, (list(run[0]),) + run[1:], str(run)]:
            self.same(shows_plain_run(reads, value), False)
        self.same(shows_plain_run(reads, run), True)

    def test_strictly(self):
        reads = Reads(Program(text_of("write mine", "look s", "say 1")), (0, 1))
        reads.weave((0, 1) * 20)
        run = plain_run(reads)
        self.same(len(run), 6)
        for place, (hand, kind, value) in enumerate(run):
            bent = [(hand == 1, kind, value), [hand, kind, value], (hand, kind, [value])]
            if kind == "look":
                bent += [(hand, kind, tuple([thing == 1 if thing is not None else None for thing in value])), (hand, kind, list(value))]
            else:
                bent += [(hand, kind, value == 1 if value in (0, 1) else None)]
            for thing in bent:
                self.same(shows_plain_run(reads, run[:place] + (thing,) + run[place + 1:]), False)

    def test_near_values_against_the_plainest_telling(self):
        """All that can be put together of the hands' STEPs, also a little bent, is told rightly."""
        counts = {True: 0, False: 0}
        for seed in range(120):
            any_of = random.Random(seed)
            text, many = any_of.choice([(PAIR, 2), (TWICE, 2), (ROUND, 3)])
            reads = woven(seed, text, tuple([any_of.randint(0, 2) for _ in range(many)]), many, any_of.choice([20, 40, 90]))
            run = plain_run(reads)
            for _ in range(25):
                value = list(run)
                for _ in range(any_of.randint(1, 3)):
                    if len(value) > 1:
                        at = any_of.randrange(len(value) - 1)
                        value[at:at + 2] = value[at:at + 2][::-1]
                if any_of.random() < 0.2 and value:
                    del value[any_of.randrange(len(value))]
                wanted = is_plain_run(many, spans(reads), value)
                counts[wanted] += 1
                self.same(shows_plain_run(reads, tuple(value)), wanted, (seed, value))
        self.assertGreater(min(counts.values()), 300)


if __name__ == "__main__":
    unittest.main()
