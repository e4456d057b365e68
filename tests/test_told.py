"""Point 10: told runs; and guarantees (a), (b), (c) and (d) of point 3."""

import random
import unittest

from fewplaymany.boxes import Filled
from fewplaymany.errors import BadProgram, NotPlayed, Wide
from fewplaymany.houses import House
from fewplaymany.players import forget, Played
from fewplaymany.programs import Program
from fewplaymany.reads import Reads
from fewplaymany.runs import judged, run_in
from fewplaymany.tables import Tabled
from fewplaymany.told import begun, behind, held, later, shows_told, told, told_through
from helpers import ASKING, Case, LEAST, PAIR, ROUNDS, some_values, text_of
from plain import Maker
from plain_players import PlainHouse, PlainPlayed, PlainProgram
from test_players import LONG, PARTING, WAITING
from test_runs import NO_RUNS, NO_STEPS

WRITE_AND_SAY = text_of("write mine", "say mine")


def steps_of(paper):
    """The STEPs of a paper."""
    return tuple([row[0] for row in paper])


def ended(house, players):
    """Lets these players go on, one behind the other, until each has said."""
    for player in players:
        while house.next(player) is not None:
            house.step(player)
    return house


def woven(any_of, program, words, times, often=0):
    """A House of a Played program, woven in bursts, with forgetting in between."""
    house, player = House(program, words), 0
    for _ in range(times):
        player = any_of.randrange(program.many) if any_of.random() < 0.4 else player
        if house.next(player) is None:
            continue
        if any_of.random() < often:
            forget(house, player)
        else:
            house.step(player)
    return house


class NoPlayed(Case):
    def test_every_function(self):
        plain = House(Program(PAIR), (3, 7))
        plain.weave((0, 1))
        tabled = Tabled(2, 1, ())
        full = Filled(Program(ASKING), 0, Played(tabled, 2))
        others = [House(tabled, (3, 7)), House(full, (3, 7)), House(Filled(Program(ASKING), 0, tabled), (3, None)), tabled, full]
        for value in some_values() + others + [plain, Played(Program(PAIR), 2), Reads(Played(Program(PAIR), 2), (3, 7)), House, NoPlayed]:
            for call in (told, begun, held, behind, told_through):
                self.refuses(NotPlayed, value, call, value)
                self.refuses(NotPlayed, value, call, house=value)
            self.refuses(NotPlayed, value, shows_told, value, ((None, None), ()))


class Told(Case):
    def tells(self, house, words, paper):
        self.same(told(house), (words, paper))
        self.same(told(house=house), told(house))
        self.same(judged(house.program.program, words, steps_of(paper)), ("run",))
        self.same(shows_told(house=house, value=(words, paper)), True)

    def test_nothing_done(self):
        house = House(Played(Program(PAIR), 3), (3, 7, 5))
        self.tells(house, (None, None), ())
        self.same([begun(house), held(house), behind(house), told_through(house)],
                  [(None, None), ((), ()), ((0, 0),) * 3, (((None, None), ()),)])
        nobody = House(Played(Program(PAIR), 2), (None, None))
        self.tells(nobody, (None, None), ())
        self.same([begun(nobody), held(nobody), behind(nobody)], [(None, None), ((), ()), ((0, 0), (0, 0))])

    def test_step_by_step(self):
        house = House(Played(Program(PAIR), 2), (3, 7))
        house.weave((0, 0, 0))
        self.tells(house, (None, None), ())
        self.same([held(house), begun(house)], [((), ()), (None, None)])
        house.weave((0,))
        self.tells(house, (3, None), ())
        self.same([begun(house), behind(house)], [((0, 3), None), ((0, 0), (0, 0))])
        house.weave((0,) * 4)
        self.tells(house, (3, 3), ())
        self.same(begun(house), ((0, 3), (0, 7)))
        house.weave((0,))
        one = ((0, "write", 3), 0, 8, 8)
        self.tells(house, (3, 3), (one,))
        self.same(behind(house), ((1, 0), (0, 0)))
        house.weave((0,) * 5)
        # The look is made, and the player is at level 2, but nobody was told yet.
        self.tells(house, (3, 3), (one, ((1, "write", 3), 0, 9, 9)))
        self.same([held(house), house.next(0)], [((), ()), ("look",)])
        house.weave((0,))
        self.tells(house, (3, 3), (one, ((1, "write", 3), 0, 9, 9), ((0, "look", (3, 3)), 0, 10, 14), ((0, "say", 3), 0, 14, 14)))
        self.same(behind(house), ((3, 1), (0, 0)))
        house.weave((0,))
        self.same([behind(house), house.said], [((3, 1), (0, 0)), (3, None)])

    def test_a_say_has_the_place_of_a_write(self):
        house = ended(House(Played(Program(WRITE_AND_SAY), 2), (3, 7)), (1,))
        self.tells(house, (7, 7), (((0, "write", 7), 1, 8, 8), ((0, "say", 7), 1, 8, 8)))
        house = House(Played(Program(WRITE_AND_SAY), 2), (3, 7))
        house.weave((0,) * 8 + (1,) * 8 + (0, 1))
        self.same(behind(house), ((2, 0), (2, 0)))
        self.tells(house, (3, 3), (((0, "write", 3), 0, 16, 16), ((0, "say", 3), 0, 16, 16)))

    def test_a_say_without_a_step(self):
        house = ended(House(Played(Program("hands 2\nsay mine"), 2), (3, 7)), (1, 0))
        self.tells(house, (7, None), (((0, "say", 7), 1, 3, 3),))
        self.same(begun(house), ((1, 3), None))

    def test_who_settled_and_who_was_told_first(self):
        house = House(Played(Program(PAIR), 2), (3, 7))
        # Player 1 brings the look of hand 0 to door 1 and stops at level 2; player 0 comes to it late, and is told first.
        house.weave((1,) * 14)
        self.same(house.boards[1][1][1], (0, 1, 2, (7, 7)))
        house.weave((0,) * 20)
        words, paper = told(house)
        self.same(words, (7, 7))
        self.same([row for row in paper if row[0][0] == 0],
                  [((0, "write", 7), 1, 8, 8), ((0, "look", (7, 7)), 1, 10, 28), ((0, "say", 7), 0, 28, 28)])
        house.weave((1,))
        self.same([told(house)[1], behind(house)[1]], [paper, (3, 1)])

    def test_a_look_stands_where_it_was_made(self):
        house = House(Played(Program(PAIR), 2), (3, 7))
        house.weave((1,) * 11)
        self.same([house.run[-1][1], house.next(1)[1][1][1]], ["look", (0, 1, 1, (7, 7))])
        early = told(house)
        house.weave((0,) * 14)
        self.same(house.boards[0][1][1], (0, 1, 2, (7, 7)))
        words, paper = told(house)
        self.same(paper[:len(early[1])], early[1])
        house.weave((1, 1, 1, 1))
        # Player 1, who looked first, came too late to level 2: the look is that of player 0.
        row = [row for row in told(house)[1] if row[0][:2] == (0, "look")][0]
        self.same([row[1], house.boards[1][1][1][2], row[2] > 10], [0, 0, True])

    def test_who_stands_at_level_1_holds_one_hand(self):
        house = House(Played(Program(PAIR), 3), (3, 7, 5))
        house.step(1)
        self.same([held(house), behind(house)], [((1,), ()), ((0, 0),) * 3])
        house.weave((2,))
        self.same(held(house), ((1, 2), ()))
        ended(house, (0,))
        self.same([told(house)[0], held(house), house.said], [(None, 3), ((1, 2), ()), (3, None, None)])
        self.same([row[0] for row in told(house)[1]], [(1, "write", 3), (1, "look", (None, 3)), (1, "say", 3)])
        house.weave((1,) * 2)
        self.same(held(house), ((2,), ()))

    def test_held_at_a_later_door(self):
        house = House(Played(Program(PAIR), 2), (3, 7))
        house.weave((0,) * 12)
        self.same([held(house), house.boards[0][1][1][:3]], [((0,), ()), (0, 1, 1)])
        ended(house, (1,))
        self.same([house.said, [row[0][0] for row in told(house)[1] if row[0][1] == "say"]], [(None, 3), [1]])
        self.same(behind(house), ((1, 1), (1, 3)))

    def test_waits(self):
        house = ended(House(Played(Program(WAITING), 1, turns=((0, 0, 0, 1),)), (3,)), (0,))
        words, paper = told(house)
        self.tells(house, words, paper)
        looks = [row[0][2] for row in paper if row[0][:2] == (0, "look")]
        self.same([looks[-1], set(looks[:-1])], [(3, 3), {(3, None)}])
        self.assertGreater(len(looks), 2)

    def test_late_players(self):
        house = ended(House(Played(Program(PAIR), 4), (3, 7, 5, 1)), (2,))
        paper = told(house)
        ended(house, (0, 3, 1))
        words, later_paper = told(house)
        self.same([later_paper[:len(paper[1])], words, house.said], [paper[1], (5, 5), (5, 5, 5, 5)])
        self.tells(house, words, later_paper)

    def test_forgetting_leaves_what_was_told(self):
        for at in range(1, 17):
            house = House(Played(Program(PAIR), 2), (3, 7))
            house.weave((0,) * at)
            if house.next(0) is None:
                continue
            before = [told(house), begun(house), held(house)]
            forget(house, 0)
            self.same([told(house), begun(house), held(house)], before)
            self.same(behind(house), ((0, 0), (0, 0)))
            ended(house, (0,))
            self.same(house.said, (3, None))
            self.tells(house, *told(house))
            self.assertTrue(later(steps_of(before[0][1]), steps_of(told(house)[1])))

    def test_a_look_lost_by_forgetting_is_not_told(self):
        house = House(Played(Program(PAIR), 1), (3,))
        house.weave((0,) * 11)
        forget(house, 0)
        ended(house, (0,))
        row = [row for row in told(house)[1] if row[0][1] == "look"][0]
        # It forgot at place 11, asked at 12 and 13, and looked at 14.
        self.same(row, ((0, "look", (3, 3)), 0, 14, 18))

    def test_told_again_behind_a_forget(self):
        house = House(Played(Program(PAIR), 2), (3, 7))
        house.weave((0,) * 4)
        forget(house, 0)
        house.weave((0,))
        self.same([house.run[-1][1], begun(house)], ["look", ((0, 3), None)])
        house.weave((0,) * 4 + (0,))
        self.same(told(house)[1], (((0, "write", 3), 0, 10, 10),))

    def test_at_every_moment(self):
        """Told runs are runs of what is played, and later ones keep what was told; all as told plainly."""
        moments = 0
        for seed in range(260):
            maker = Maker(seed)
            any_of = maker.any
            text = any_of.choice([PAIR, LONG, WAITING, PARTING, ROUNDS, LEAST, maker.program()])
            try:
                program = Program(text)
            except (BadProgram, Wide):
                continue
            if program.boxes:
                continue
            plain = PlainProgram(text)
            for _ in range(any_of.choice([1, 1, 1, 2])):
                inner, many, hands = program, any_of.randint(1, 4), program.many
                turns = tuple([tuple(any_of.sample(range(hands), hands) + [any_of.randrange(hands) for _ in range(any_of.randint(0, 4))])
                               for _ in range(many)]) if any_of.random() < 0.3 else None
                program, plain = Played(program, many, turns=turns), PlainPlayed(plain, many, turns)
            words = tuple([None if any_of.random() < 0.1 else any_of.randint(0, 99) for _ in range(many)])
            house, other = House(program, words), PlainHouse(plain, words)
            often, player, early = any_of.choice([0, 0.05, 0.2]), 0, ()
            for _ in range(any_of.choice([40, 120])):
                player = any_of.randrange(many) if any_of.random() < 0.4 else player
                if house.next(player) is None:
                    continue
                if any_of.random() < often:
                    forget(house, player)
                    other.forget(player)
                else:
                    house.step(player)
                    other.step(player)
                    if any_of.random() < 0.1:
                        house = house.copy()
                if any_of.random() < 0.85:
                    continue
                moments += 1
                words_told, paper = told(house)
                self.assertEqual((words_told, paper), other.told(), (seed, text))
                self.assertEqual([begun(house), held(house), behind(house)], [other.begun(), other.held(), other.behind()], (seed, text))
                self.assertEqual(judged(inner, words_told, steps_of(paper)), ("run",), (seed, text))
                self.assertTrue(later(early, steps_of(paper)), (seed, text))
                early = steps_of(paper)
                self.stands(house, words_told, paper)
            copy = house.copy()
            self.assertEqual([told(copy), behind(copy)], [told(house), behind(house)])
        self.assertGreater(moments, 1200)

    def stands(self, house, words, paper):
        """What point 10 tells of every paper."""
        keys = [(row[2], row[0][1] == "say") for row in paper]
        self.assertEqual(keys, sorted(set(keys)))
        lots = held(house)
        self.assertEqual(sum([len(lot) for lot in lots]), len({player for lot in lots for player in lot}))
        heard = begun(house)
        self.same([word is None for word in words], [pair is None for pair in heard])
        self.same(words, tuple([None if pair is None else house.words[pair[0]] for pair in heard]))
        for step, player, place, known in paper:
            self.assertEqual(house.run[place][0], player)
            self.assertIn(house.run[place][1], {"write": ["write"], "look": ["look"], "say": ["write", "look"]}[step[1]])
            self.assertTrue(known >= place if step[1] == "look" else known == place)


class ShowsTold(Case):
    def test_bent_in_each_part(self):
        house = House(Played(Program(LEAST), 2), (1, 0))
        house.weave((1,) + (0,) * 10 + (1,) * 3 + (0,) * 7 + (1,) * 12)
        words, paper = told(house)
        self.same([words, len(paper), shows_told(house, (words, paper))], [(1, 1), 6, True])
        others = [words, (words,), (words, paper, ()), [words, paper], (list(words), paper), (words, list(paper)), (paper, words),
                  ((1, True), paper), ((1, None), paper), ((1,), paper), ((1, 1, 1), paper), ((1, 0), paper), (None, paper), (words, None),
                  (words, paper[:-1]), (words, paper[1:]), (words, paper + paper[-1:]), (words, paper[::-1]),
                  (words, paper[1:2] + paper[:1] + paper[2:]), (words, ()), (words, steps_of(paper))]
        for value in others + some_values():
            self.same(shows_told(house, value), False, value)
        for at, (step, player, place, known) in enumerate(paper):
            hand, kind, matter = step
            rows = [
                (step, 1 - player, place, known), (step, player, place + 1, known), (step, player, place, known + 1), (step, player, place),
                (step, player, place, known, 0), [step, player, place, known], (step, player == 1, place, known), (step, None, place, known),
                ((1 - hand, kind, matter), player, place, known), ((hand, kind, (matter,)), player, place, known),
                ((hand, "look" if kind == "write" else "write", matter), player, place, known), (list(step), player, place, known),
                ((hand == 1, kind, matter), player, place, known), ((hand, kind, None), player, place, known), None, step,
                ((hand, kind), player, place, known), (step, player, known, known) if place != known else None,
            ]
            if matter == 1:
                rows.append(((hand, kind, True), player, place, known))
            if kind == "look":
                rows.append(((hand, kind, tuple([thing == 1 if thing is not None else None for thing in matter])), player, place, known))
                rows.append(((hand, kind, list(matter)), player, place, known))
            for row in rows:
                self.same(shows_told(house, (words, paper[:at] + (row,) + paper[at + 1:])), False, row)

    def test_each_moment_has_its_own(self):
        house = House(Played(Program(PAIR), 2), (3, 7))
        seen = []
        while house.next(0) is not None:
            house.step(0)
            for value in seen:
                self.same(shows_told(house, value), value == told(house))
            seen.append(told(house))
        self.same(shows_told(house, seen[-1]), True)


class Later(Case):
    def test_example(self):
        house = House(Played(Program(LEAST), 2), (3, 7))
        house.weave((1,) + (0,) * 10)
        early = steps_of(told(house)[1])
        house.weave((1,) * 3 + (0,) * 7 + (1,) * 12)
        steps = steps_of(told(house)[1])
        self.same([later(early, steps), later(one=steps, other=early), later(steps[:2] + steps[3:4], steps)], [True, False, False])

    def of(self, one, other, wanted):
        """later of two runs, each given by its text with ; between the STEPs."""
        self.same(later(run_in(one.replace(" ; ", "\n")), run_in(other.replace(" ; ", "\n"))), wanted, (one, other))

    def test_each_part(self):
        self.of("", "", True)
        self.of("", "0 write 1 ; 1 say 2 ; 0 look - -", True)
        self.of("0 write 1", "", False)
        run = "0 write 1 ; 1 write 2 ; 0 look 1 -"
        self.of(run, run, True)
        self.of(run, run + " ; 1 look 1 2 ; 1 say 2", True)
        # A hand's STEPs in one are its first ones in other.
        self.of(run, "0 write 1 ; 1 write 3 ; 0 look 1 -", False)
        self.of(run, "0 write 1 ; 1 write 2 ; 0 look 1 2", False)
        self.of(run, "0 look 1 - ; 0 write 1 ; 1 write 2", False)
        self.of(run, "0 write 1 ; 0 look 1 -", False)
        self.of(run, "0 look - - ; 0 write 1 ; 1 write 2 ; 0 look 1 -", False)
        self.of("0 look 1 -", "0 look 1 - ; 0 look 1 -", True)
        # They stand in other in the sequence in which they stand in one.
        self.of(run, "1 write 2 ; 0 write 1 ; 0 look 1 -", False)
        self.of(run, "0 write 1 ; 0 look 1 - ; 1 write 2", False)
        # No other write and no other say stands ahead of one of them; looks may.
        self.of(run, "0 write 1 ; 2 look - - - ; 1 write 2 ; 0 look 1 -", True)
        self.of(run, "2 look 1 ; 0 write 1 ; 1 write 2 ; 1 look 1 2 ; 1 look - - ; 0 look 1 -", True)
        self.of(run, "0 write 1 ; 1 write 2 ; 2 write - ; 0 look 1 -", False)
        self.of(run, "0 write 1 ; 1 write 2 ; 1 write 5 ; 0 look 1 -", False)
        self.of(run, "0 write 1 ; 1 write 2 ; 1 say 5 ; 0 look 1 -", False)
        self.of(run, "3 say 0 ; 0 write 1 ; 1 write 2 ; 0 look 1 -", False)
        self.of(run, run + " ; 2 write - ; 3 say 0 ; 1 look -", True)

    def test_values_of_any_kind(self):
        run = ((0, "write", 1), (1, "look", (1, None)))
        for value in some_values() + list(NO_RUNS) + [run + ((1, "forget", None),), ((0, "ask", (0, 1)),), ((0, "answer", (0, 1)),), list(run),
                                                      (run,), run + (None,)]:
            wanted = value == () or value == ((0, "write", 1),)
            for other in (run, (), value):
                if isinstance(value, tuple) and wanted:
                    continue
                self.same(later(value, other), False, value)
                self.same(later(other, value), False, value)
        for step in NO_STEPS:
            self.same([later(run, run + (step,)), later((), (step,)), later((step,), (step,))], [False] * 3)
        self.same([later(((1, "write", 1),), ((1, "write", True),)), later(((1, "write", True),), ((1, "write", 1),))], [False, False])
        self.same([later(((0, "forget", None),), ((0, "forget", None),)), later((), ((0, "forget", None),))], [False, False])

    def test_against_the_plainest_telling(self):
        def plainly(one, other):
            first, taken = {}, []
            for step in one:
                first.setdefault(step[0], []).append(step)
            for hand, steps in first.items():
                places = [place for place, step in enumerate(other) if step[0] == hand][:len(steps)]
                if [other[place] for place in places] != steps:
                    return False
                taken += places
            if [other[place] for place in sorted(taken)] != list(one):
                return False
            rest = [place for place, step in enumerate(other) if place not in taken and step[1] != "look"]
            return not taken or not rest or min(rest) > max(taken)

        counts = {True: 0, False: 0}
        for seed in range(4000):
            any_of = random.Random(seed)
            steps = [(0, "write", 1), (1, "write", 1), (0, "look", (None,)), (1, "look", (None,)), (0, "say", 1), (2, "look", (1,))]
            other = [any_of.choice(steps) for _ in range(any_of.randint(0, 6))]
            one = [step for step in other if any_of.random() < 0.7]
            if any_of.random() < 0.2:
                any_of.shuffle(one)
            counts[plainly(one, other)] += 1
            self.same(later(tuple(one), tuple(other)), plainly(one, other), (one, other))
        self.assertGreater(min(counts.values()), 1000)


class Through(Case):
    def test_once(self):
        house = ended(House(Played(Program(LEAST), 2), (3, 7)), (1, 0))
        self.same(told_through(house), (told(house),))
        self.same(told_through(house=house), told_through(house))

    def test_players_that_are_played(self):
        low = Program(LEAST)
        for times in (2, 3):
            for seed in range(6):
                any_of = random.Random(seed)
                programs = [low]
                for _ in range(times):
                    programs.append(Played(programs[-1], any_of.choice([1, 2, 2, 3])))
                many = programs[-1].many
                house = woven(any_of, programs[-1], (3, 7, 5)[:many], any_of.choice([10, 100, 400, 1500]), any_of.choice([0, 0, 0.01]))
                found = told_through(house)
                self.same(len(found), times)
                self.assertEqual(found[0], told(house))
                for (words, paper), beside, program in zip(found, found[1:], programs[-2:0:-1]):
                    inner = House(program, words)
                    for row in paper:
                        self.assertEqual(inner.step(row[0][0]), row[0])
                    self.assertEqual(told(inner), beside)
                self.assertEqual(judged(low, found[-1][0], steps_of(found[-1][1])), ("run",))

    def test_all_the_way(self):
        house = ended(House(Played(Played(Played(Program(LEAST), 2), 2), 2), (3, 7)), (0, 1))
        found = told_through(house)
        # Player 0 went all the way alone, so its word is the only one that is heard of.
        self.same([{word for word in words if word is not None} for words, _ in found], [{3}] * 3)
        self.same([{row[0][2] for row in paper if row[0][1] == "say"} for _, paper in found], [{3}] * 3)
        self.same(house.said, (3, 3))


if __name__ == "__main__":
    unittest.main()
