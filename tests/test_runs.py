"""Point 5: runs; and point 2 of STEPs and of texts of VALUES."""

import random
import unittest

from fewplaymany.errors import BadBoxes, BadLot, BadRun, BadText, BadWords, NoProgram, NotSwapped
from fewplaymany.houses import House
from fewplaymany.players import forget, Played
from fewplaymany.programs import Program
from fewplaymany.runs import alike, brought, judged, run_in, run_text, swapped
from fewplaymany.tasks import Task
from helpers import ASKING, Case, LEAST, PAIR, programs_barred, some_values, text_of
from plain import Maker
from test_houses import AGREE, LOOSE, NO_WORDS, WIDE

# STEPs of each kind, and what is near to one, and is none.
STEPS = (
    (0, "write", 5), (5, "write", None), (0, "write", ()), (1, "write", ((), (None, -3), 12345678)), (2, "write", -1),
    (0, "look", (None,)), (3, "look", (1, None, (2, ()), None, -9999, ((),))), (0, "look", ((None, None), ((0, 0, 1, 3),))),
    (0, "say", 0), (5, "say", 99), (0, "ask", (0, 0)), (1, "ask", (5, 99)), (0, "answer", (2, 7)), (4, "forget", None),
)
NO_STEPS = (
    None, 0, True, "0 write 5", (), (0,), (0, "write"), (0, "write", 5, 5), [0, "write", 5], (6, "write", 5), (-1, "write", 5),
    (True, "write", 5), (False, "say", 5), ("0", "write", 5), (None, "write", 5), (0, "Write", 5), (0, "", 5), (0, None, 5),
    (0, 0, 5), (0, ("write",), 5), (0, ["write"], 5), (0, "write", True), (0, "write", [1]), (0, "write", "1"), (0, "write", {}),
    (0, "write", (1, False)), (0, "write", (1, [2])), (0, "write", (1, (2, ("",)))), (0, "write", b"1"), (0, "look", None),
    (0, "look", ()), (0, "look", 5), (0, "look", [None]), (0, "look", (True,)), (0, "look", (1, ["x"])), (0, "look", (None,) * 7),
    (0, "say", None), (0, "say", 100), (0, "say", -1), (0, "say", True), (0, "say", (5,)), (0, "say", "5"), (0, "ask", 5),
    (0, "ask", (0,)), (0, "ask", (0, 1, 2)), (0, "ask", [0, 1]), (0, "ask", (6, 1)), (0, "ask", (-1, 1)), (0, "ask", (0, 100)),
    (0, "ask", (False, 1)), (0, "ask", (0, True)), (0, "ask", (0, None)), (0, "answer", None), (0, "answer", (0, 100)),
    (0, "answer", (6, 0)), (0, "answer", (0, 1.0)), (0, "answer", [0, 1]), (0, "forget", 0), (0, "forget", ()), (0, "forget", False),
    (0, "read", (0, 1)), (0, "level", 1), (0, "read", None), (0, "", None), (0, "forgets", None), (0, None, None), (0, ["forget"], None),
)

# No runs.
NO_RUNS = [value for value in some_values() if value != () and not isinstance(value, tuple)] + [(step,) for step in NO_STEPS] + [
    [(0, "write", 5)], (0, "write", 5), ((0, "write", 5), None), ((0, "write", 5), (0, "write", True)), "", "0 write 5", None,
]


def run_of(text, words, weaving):
    """The run of a House of a Program, woven so."""
    house = House(Program(text), words)
    house.weave(weaving)
    return house.run


class Judged(Case):
    def judges(self, place, program, words, value, boxes=()):
        """value is no run, because of the thing at this place; None for a run."""
        wanted = ("run",) if place is None else ("wrong", place)
        self.same(judged(program, words, value, boxes), wanted, value)

    def test_errors_in_sequence(self):
        for value in programs_barred():
            self.refuses(NoProgram, value, judged, value, None, None, None)
        for words in NO_WORDS:
            self.refuses(BadWords, words, judged, Program(ASKING), words, None, None)
        for boxes in (None, (), [AGREE], (1,), (AGREE, AGREE), AGREE):
            self.refuses(BadBoxes, boxes, judged, Program(ASKING), (1, 2), None, boxes)
        self.refuses(BadBoxes, (), judged, Program(ASKING), (1, 2), ())
        self.refuses(BadBoxes, (AGREE,), judged, Program(PAIR), (1, 2), (), (AGREE,))
        self.same(judged(program=Program(PAIR), words=(1, 2), value=(), boxes=()), ("run",))

    def test_no_tuple(self):
        for value in some_values():
            if not isinstance(value, tuple):
                self.judges(0, Program(PAIR), (3, 7), value)
        self.judges(0, Program(PAIR), (3, 7), [(0, "write", 3)])

    def test_runs_at_every_moment(self):
        for seed in range(40):
            any_of = random.Random(seed)
            run = run_of(PAIR, (3, 7), tuple([any_of.randrange(2) for _ in range(12)]))
            for at in range(len(run) + 1):
                self.judges(None, Program(PAIR), (3, 7), run[:at])

    def test_a_step_out_twice_or_exchanged(self):
        run = run_of(PAIR, (3, 7), (0, 0, 1, 1, 0, 1))
        for place, wanted in enumerate((0, 3, 2, 4, None, None)):
            self.judges(wanted, Program(PAIR), (3, 7), run[:place] + run[place + 1:])
        for place in range(6):
            self.judges(place + 1, Program(PAIR), (3, 7), run[:place + 1] + run[place:])
        for place, wanted in enumerate((0, 2, 2, None, None)):
            swap = run[:place] + (run[place + 1], run[place]) + run[place + 2:]
            self.judges(wanted, Program(PAIR), (3, 7), swap)
        self.judges(6, Program(PAIR), (3, 7), run + ((0, "say", 3),))

    def test_another_hand_kind_or_value(self):
        run = run_of(PAIR, (3, 7), (0, 0, 1, 1, 0, 1))
        others = (
            (1, "write", 3), (2, "write", 3), (0, "look", (None, None)), (0, "say", 3), (0, "write", 4), (0, "write", None),
            (0, "write", (3,)), (0, "forget", None), (0, "ask", (0, 3)), (0, "answer", (0, 3)), (0, "write", 7), (-1, "write", 3),
        )
        for other in others:
            self.judges(0, Program(PAIR), (3, 7), (other,) + run[1:])
        for other in ((0, "look", (3, 7)), (0, "look", (None, None)), (0, "look", (3,)), (0, "look", (3, None, None)), (1, "look", (3, None)),
                      (0, "look", ()), (0, "look", None), (0, "look", ((3, None),)), (0, "write", (3, None))):
            self.judges(1, Program(PAIR), (3, 7), run[:1] + (other,) + run[2:])
        for other in ((0, "say", 7), (0, "say", None), (0, "look", (3, 7)), (0, "say", (3,))):
            self.judges(4, Program(PAIR), (3, 7), run[:4] + (other,) + run[5:])

    def test_a_bool_or_a_list_in_the_place_of_a_number_or_a_tuple(self):
        program = Program(text_of("write row 2 mine me", "look s", "say mine"))
        run = run_of(program.text, (0, 1), (0, 1, 0, 1, 0, 1))
        self.judges(None, program, (0, 1), run)
        self.same(run[3], (1, "look", ((0, 0), (1, 1))))
        bent = {
            0: [(False, "write", (0, 0)), (0, "write", (False, 0)), (0, "write", [0, 0]), [0, "write", (0, 0)], (0, "write", (0, 0.0)),
                (0, ["write"], (0, 0)), (0, b"write", (0, 0)), (0, None, (0, 0)), (0, "write", "(0, 0)")],
            1: [(True, "write", (1, 1)), (1, "write", (True, 1)), (1, "write", (1, True)), (1, "write", [1, 1])],
            3: [(1, "look", ((0, 0), (1, True))), (1, "look", ((0, 0), [1, 1])), (1, "look", [(0, 0), (1, 1)]), (True, "look", run[3][2])],
            4: [(0, "say", False), (False, "say", 0), (0, "say", (0,)), (0, "say", 0.0)],
            5: [(1, "say", True), [1, "say", 1], (1, "say", 1, 1), (1, "say")],
        }
        for place in bent:
            for thing in bent[place] + some_values():
                self.judges(place, program, (0, 1), run[:place] + (thing,) + run[place + 1:])

    def test_hands_that_never_come(self):
        run = run_of(PAIR, (3, 7), (0, 0, 1, 1, 0, 1))
        self.judges(2, Program(PAIR), (3, None), run)
        self.judges(0, Program(PAIR), (None, 7), run)
        self.judges(None, Program(PAIR), (3, None), run[:2] + run[4:5])

    def test_boxes(self):
        program = Program(ASKING)
        house = House(program, (1, 2), (AGREE,))
        for hand, answer in ((0, None), (1, None), (1, 2), (1, None), (1, None), (0, 2), (0, None), (0, None)):
            house.step(hand, answer)
        run = house.run
        self.same(run[:3], ((0, "ask", (0, 1)), (1, "ask", (0, 2)), (1, "answer", (0, 2))))
        self.judges(None, program, (1, 2), run, (AGREE,))
        # Both brought, but 1 was not answered yet: by itself it is right as well.
        self.judges(5, program, (1, 2), run[:5] + ((0, "answer", (0, 1)),) + run[6:], (AGREE,))
        self.judges(6, program, (1, 2), run[:5] + ((0, "answer", (0, 1)),) + run[6:], (LOOSE,))
        self.judges(0, program, (1, 2), run[2:], (AGREE,))
        for place, things in (
            (0, [(0, "ask", (0, 2)), (0, "ask", (1, 1)), (0, "ask", (False, 1)), (0, "ask", (0, True)), (0, "ask", [0, 1]), (0, "ask", 1)]),
            (2, [(1, "answer", (0, 3)), (1, "answer", (1, 2)), (1, "answer", (False, 2)), (1, "answer", (0, 2.0)), (1, "answer", [0, 2]),
                 (1, "answer", (0, None)), (1, "answer", 2), (1, "answer", (0,)), (1, "answer", (0, 2, 2)), (1, "answer", None),
                 (1, "answer", (0, "2")), (0, "answer", (0, 3)), (0, "write", 1)]),
        ):
            for thing in things:
                self.judges(place, program, (1, 2), run[:place] + (thing,) + run[place + 1:], (AGREE,))
        self.judges(1, program, (1, 2), ((0, "ask", (0, 1)), (0, "answer", (0, True))), (AGREE,))
        self.judges(1, program, (9, 2), ((0, "ask", (0, 9)), (0, "answer", (0, 9))), (WIDE,))
        self.judges(None, program, (9, 2), ((0, "ask", (0, 9)), (1, "ask", (0, 2)), (1, "answer", (0, 7))), (WIDE,))

    def test_forgets(self):
        few = Played(Program(PAIR), 2)
        house = House(few, (3, None))
        any_of = random.Random(3)
        while house.next(0) is not None:
            if any_of.random() < 0.3:
                forget(house, 0)
            else:
                house.step(0)
        run = house.run
        self.assertGreater(len([step for step in run if step[1] == "forget"]), 3)
        self.judges(None, few, (3, None), run)
        self.judges(len(run), few, (3, None), run + ((0, "forget", None),))
        for thing in ((1, "forget", None), (2, "forget", None), (0, "forget", 0), (0, "forget", ()), (0, "forget", False), (False, "forget", None),
                      (0, "forget"), (0, "Forget", None)):
            self.judges(0, few, (3, None), (thing,) + run)
        self.judges(None, few, (3, None), ((0, "forget", None),) * 50)
        self.judges(0, Program(PAIR), (3, 7), ((0, "forget", None),))
        house = House(few, (3, None))
        house.weave((0,) * 4)
        forget(house, 0)
        house.weave((0,) * 2)
        # Without forgetting, the player would not ask once more.
        self.judges(None, few, (3, None), house.run)
        self.judges(4, few, (3, None), house.run[:4] + house.run[5:])

    def test_bent_runs_of_random_programs(self):
        """A run with one thing bent is wrong there, or a run of the House that does so."""
        wrong = 0
        for seed in range(150):
            maker = Maker(seed)
            text = maker.program()
            try:
                program = Program(text)
            except ValueError:
                continue
            if program.boxes:
                continue
            any_of = maker.any
            words = tuple([any_of.randint(0, 3) for _ in range(program.many)])
            house = House(program, words)
            house.weave(tuple([any_of.randrange(program.many) for _ in range(25)]))
            run = house.run
            self.judges(None, program, words, run)
            for _ in range(10):
                place = any_of.randrange(len(run) + 1)
                thing = any_of.choice(list(STEPS) + list(run))
                value = run[:place] + (thing,) + run[place + any_of.randint(0, 1):]
                plain = House(program, words)
                wanted = None
                for at, step in enumerate(value):
                    due = plain.next(step[0]) if step[0] < program.many else None
                    if due is None or due[0] != step[1] or (plain.boards if due[0] == "look" else due[1]) != step[2]:
                        wanted = at
                        break
                    plain.step(step[0])
                self.judges(wanted, program, words, value)
                wrong += wanted is not None
        self.assertGreater(wrong, 500)


class Texts(Case):
    def both_ways(self, run, text):
        self.same(run_text(run), text)
        self.same(run_in(text), run)

    def test_each_kind(self):
        self.both_ways((), "")
        self.both_ways(((0, "write", 5),), "0 write 5")
        self.both_ways(((5, "write", None),), "5 write -")
        self.both_ways(((1, "write", -12345),), "1 write -12345")
        self.both_ways(((1, "write", ()),), "1 write ( )")
        self.both_ways(((1, "write", (1, (), (None, ((-2,),)))),), "1 write ( 1 ( ) ( - ( ( -2 ) ) ) )")
        self.both_ways(((2, "look", ((1, None), 4)),), "2 look ( 1 - ) 4")
        self.both_ways(((0, "look", (None,)),), "0 look -")
        self.both_ways(((0, "look", (None, 0, (), (None,), -1, ((), ()))),), "0 look - 0 ( ) ( - ) -1 ( ( ) ( ) )")
        self.both_ways(((3, "say", 0), (4, "say", 99)), "3 say 0\n4 say 99")
        self.both_ways(((0, "ask", (0, 12)), (0, "answer", (5, 0))), "0 ask 0 12\n0 answer 5 0")
        self.both_ways(((4, "forget", None),), "4 forget")
        self.same(run_text(run=((0, "say", 1),)), "0 say 1")
        self.same(run_in(text="0 say 1"), ((0, "say", 1),))

    def test_all_kinds_together(self):
        self.same(run_in(run_text(STEPS)), STEPS)
        self.same(len(run_text(STEPS).split("\n")), len(STEPS))

    def test_deep_and_wide_values(self):
        deep = 7
        for _ in range(60):
            deep = (deep,)
        self.both_ways(((0, "write", deep),), "0 write " + "( " * 60 + "7" + " )" * 60)
        self.both_ways(((0, "write", (None,) * 500),), "0 write ( " + "- " * 500 + ")")
        maker = Maker(6)
        for _ in range(200):
            run = tuple([(maker.any.randrange(6), "look", tuple([maker.value(4) for _ in range(maker.any.randint(1, 6))])) for _ in range(3)])
            self.same(run_in(run_text(run)), run)

    def test_houses_there_and_back(self):
        few = Played(Played(Program(PAIR), 2), 2)
        house = House(few, (3, 7))
        house.weave((0, 1, 1) * 40)
        forget(house, 1)
        self.assertEqual(run_in(run_text(house.run)), house.run)

    def test_bad_run(self):
        for value in NO_RUNS:
            self.refuses(BadRun, value, run_text, value)

    def test_bad_text(self):
        for value in some_values() + [b"", b"0 say 1"]:
            if not isinstance(value, str):
                self.refuses(BadText, 0, run_in, value)
        wrong = (
            " ", "0", "0 ", "0 write", "0 write ", "0 write 1 2", "0 write 01", "0 write +1", "0 write -0", "0 write 1.0", "0 write a",
            "0 write --1", "0 write (", "0 write )", "0 write ( 1", "0 write 1 )", "0 write ( 1 ) )", "0 write ) (", "0 write (1 )",
            "0 write ()", "0 write (  )", "0 write ( ) ( )", "0 write ( 1, 2 )", "0 write None", "0 write  1", " 0 write 1", "0 write 1 ",
            "0  write 1", "00 write 1", "6 write 1", "-1 write 1", "a write 1", "write 1", "- write 1", "0 Write 1", "0 writes 1", "0 wait 1",
            "0 look", "0 look ", "0 look 1 2 3 4 5 6 7", "0 look ( 1", "0 look 1  2", "0 look 1 2 ", "0 look a", "0 say", "0 say 100",
            "0 say -1", "0 say -", "0 say ( )", "0 say 1 2", "0 say 01", "0 say a", "0 ask", "0 ask 0", "0 ask 0 1 2", "0 ask 6 1", "0 ask 0 100",
            "0 ask -1 1", "0 ask - 1", "0 ask 0 -", "0 ask ( 0 1 )", "0 answer 0", "0 answer 0 1 1", "0 answer 6 1", "0 answer a 1",
            "0 answer 00 1", "0 forget ", "0 forget -", "0 forget 0", "0 forget None", "0 forgets", "0 forget forget", "forget", "0\twrite 1",
            "0 write 1\r", "0 write \"1\"", "( 0 ) write 1", "0 read 0 1", "0 write 1 # no",
        )
        for line in wrong:
            self.refuses(BadText, 1, run_in, line)
            self.refuses(BadText, 3, run_in, f"0 say 1\n5 forget\n{line}\nwrong too")
        self.refuses(BadText, 1, run_in, "\n")
        self.refuses(BadText, 2, run_in, "0 say 1\n")
        self.refuses(BadText, 2, run_in, "0 say 1\n\n0 say 1")
        self.refuses(BadText, 1, run_in, "\n0 say 1")


class Brought(Case):
    def test_lots(self):
        run = run_of(PAIR, (3, 7), (0, 0, 1, 1, 0, 1))
        self.same([brought((3, 7), run[:2]), brought((3, 7), run), brought((3, 7), ())], [(3,), (3, 7), ()])
        self.same(brought((7, 3), run), (3, 7))
        self.same(brought((7, 7), run), (7,))
        self.same(brought((7, None, 5), run[:2]), (7,))
        self.same(brought(words=(0,), run=((0, "forget", None),)), (0,))
        self.same(brought((None,) * 5 + (99,), ((5, "ask", (0, 1)),)), (99,))
        self.same(brought((None,), ()), ())

    def test_errors_in_sequence(self):
        for words in (None, (), (1,) * 7, [1, 2], (True,), (100,), (-1,), ("1",), ((1,),), 1, "12", {}, ([1],), (1, False), (1.0,)):
            self.refuses(BadWords, words, brought, words, None)
        for value in NO_RUNS:
            self.refuses(BadRun, value, brought, (1,) * 6, value)
        run = ((0, "say", 1), (1, "say", 2))
        self.refuses(BadRun, run, brought, (1, None), run)
        self.refuses(BadRun, run, brought, (1,), run)
        self.refuses(BadRun, run, brought, (None, 2), run)


class Swapped(Case):
    def test_bad_run_first(self):
        for value in NO_RUNS:
            self.refuses(BadRun, value, swapped, value, None)

    def test_not_swapped(self):
        run = run_of(PAIR, (3, 7), (0, 0, 1, 1, 0, 1))
        for number in (-1, 5, 6, 100, True, False, None, "0", (0,), 0.0, [0]):
            self.refuses(NotSwapped, number, swapped, run, number)
        # A hand's own, a look and a write, one's own again.
        for number in (0, 1, 2):
            self.refuses(NotSwapped, number, swapped, run, number)
        for number in (0, -1, None):
            self.refuses(NotSwapped, number, swapped, (), number)
            self.refuses(NotSwapped, number, swapped, run[:1], number)

    def test_which_kinds(self):
        kinds = {"write": 1, "look": (None,), "say": 1, "ask": (0, 1), "answer": (0, 1), "forget": None}
        barred = [{"write", "look"}, {"ask", "answer"}]
        for one in kinds:
            for other in kinds:
                run = ((0, one, kinds[one]), (1, other, kinds[other]))
                if {one, other} in barred:
                    self.refuses(NotSwapped, 0, swapped, run, 0)
                else:
                    self.same(swapped(run=run, number=0), (run[1], run[0]))
                own = ((0, one, kinds[one]), (0, other, kinds[other]))
                self.refuses(NotSwapped, 0, swapped, own, 0)
        for one, other in (("ask", "answer"), ("answer", "ask")):
            run = ((0, one, (0, 1)), (1, other, (1, 1)))
            self.same(swapped(run, 0), run[::-1])

    def test_the_run_stays_a_run(self):
        swaps = 0
        for seed in range(60):
            any_of = random.Random(seed)
            program = Program(ASKING) if seed % 2 else Played(Program(PAIR), 3)
            boxes = (AGREE,) if seed % 2 else ()
            words = (1, 2, 1)[:program.many]
            house = House(program, words, boxes)
            while len(house) < 30 and [hand for hand in range(program.many) if house.next(hand) is not None]:
                hand = any_of.randrange(program.many)
                due = house.next(hand)
                if due is None:
                    continue
                if not boxes and any_of.random() < 0.1:
                    forget(house, hand)
                else:
                    house.step(hand, any_of.choice(house.answers(hand)) if due[0] == "answer" else None)
            run = house.run
            for number in range(len(run) - 1):
                try:
                    other = swapped(run, number)
                except NotSwapped:
                    continue
                swaps += 1
                self.same(other, run[:number] + run[number:number + 2][::-1] + run[number + 2:])
                self.assertEqual(judged(program, words, other, boxes), ("run",))
                self.assertTrue(alike(run, other, tuple(range(program.many))))
        self.assertGreater(swaps, 300)


class Alike(Case):
    def test_alike(self):
        run = run_of(PAIR, (3, 7), (0, 0, 1, 1, 0, 1))
        later = swapped(run, 3)
        self.same(alike(one=run, other=later, lot=(0, 1)), True)
        self.same([alike(run, run[:-1], lot) for lot in ((0,), (1,), (0, 1), ())], [True, False, False, True])
        other = run_of(PAIR, (3, 7), (0, 1, 0, 1, 0, 1))
        self.same([alike(run, other, lot) for lot in ((), (0,), (1,), (0, 1), (2, 9), (1, 2))], [True, False, True, False, True, True])
        turned = ((0, "write", 1), (0, "write", 2))
        self.same([alike(turned, turned[::-1], (0,)), alike(turned, turned[::-1], (1, 2))], [False, True])

    def test_errors_in_sequence(self):
        for value in NO_RUNS:
            self.refuses(BadRun, value, alike, value, None, None)
            self.refuses(BadRun, value, alike, (), value, None)
        self.refuses(BadRun, 1, alike, 1, 2, 3)
        for lot in (None, 0, [0], (1, 0), (0, 0), (-1,), (True,), (0, True), ("0",), "0", {}, ((0,),)):
            self.refuses(BadLot, lot, alike, (), (), lot)


if __name__ == "__main__":
    unittest.main()
