"""Point 9: played programs."""

import random
import unittest

from fewplaymany.errors import BadHand, BadMany, BadProgram, BadTurns, BadWords, Done, HasBoxes, NoProgram, NotPlayed, Wide
from fewplaymany.houses import House
from fewplaymany.players import forget, Played
from fewplaymany.programs import Program
from fewplaymany.runs import judged
from fewplaymany.told import behind
from helpers import ASKING, Case, LEAST, NO_HANDS, PAIR, programs_barred, ROUNDS, some_values, text_of
from plain import Maker
from plain_players import PlainHouse, PlainPlayed, PlainProgram

# Two hands that write twice each ahead of a look.
LONG = text_of("write mine", "write plus mine 1", "look s", "write count s", "say count s")
WAITING = text_of("write mine", "wait s less 1 count s", "say count s")
# Hands part by their number: hand 1 says without a step, hand 2 writes and says, hand 0 looks.
PARTING = text_of("if same me 1", "say mine", "end", "if same me 2", "write 9", "say 9", "end", "look s", "say count s", hands=3)


def steps_alone(house, player):
    """All that a player does alone until it has said: kind and what of each STEP."""
    steps = []
    while house.next(player) is not None:
        steps.append(house.step(player))
    return steps


def both_houses(text, players, words, turns=None, deep=1):
    """A House of a Played program, and a PlainHouse of it; players tells how many play, level by level."""
    program, plain = Program(text), PlainProgram(text)
    for many in players:
        program, plain = Played(program, many, turns=turns), PlainPlayed(plain, many, turns)
    return House(program, words), PlainHouse(plain, words)


class Making(Case):
    def test_properties(self):
        few = Played(Program(PAIR), 2)
        self.same([few.program, few.many, few.boxes, few.turns], [Program(PAIR), 2, 0, ((0, 1), (0, 1))])
        for many in (1, 2, 3, 4):
            self.same(Played(Program(ROUNDS), many).turns, ((0, 1, 2),) * many)
        few = Played(program=Program(PAIR), many=2, turns=((1, 0, 1), (0, 1)))
        self.same([few.turns, few.many], [((1, 0, 1), (0, 1)), 2])
        self.same(Played(Program(PAIR), 1, turns=None).turns, ((0, 1),))
        self.assertRaises(TypeError, Played, Program(PAIR), 1, ((0, 1),))
        twice = Played(few, 3)
        self.same([twice.program.turns, twice.many, twice.turns], [((1, 0, 1), (0, 1)), 3, ((0, 1),) * 3])

    def test_errors_in_sequence(self):
        for value in programs_barred():
            self.refuses(NoProgram, value, Played, value, None, turns=1)
        self.refuses(HasBoxes, Program(ASKING), Played, Program(ASKING), None, turns=1)
        self.refuses(HasBoxes, Program(ASKING), Played, Program(ASKING), 2)
        for many in (0, 5, -1, 100, True, False, None, "2", (2,), [2], {}, 2.0):
            self.refuses(BadMany, many, Played, Program(PAIR), many, turns=1)
        right = (0, 1)
        for row in ((), (0,), (1,), (0, 0), (0, 2), (0, 1, 2), (0, 1, -1), (False, 1), (0, True), ("0", 1), [0, 1], None, 0, "01",
                    (0, 1) * 6 + (0,), ((0, 1),), {0: 1}, (0, 1, None)):
            self.refuses(BadTurns, (right, row), Played, Program(PAIR), 2, turns=(right, row))
            self.refuses(BadTurns, (row, right), Played, Program(PAIR), 2, turns=(row, right))
        for turns in ((), (right,), (right,) * 3, [right, right], right, 0, True, "", {}, (None, None), False):
            self.refuses(BadTurns, turns, Played, Program(PAIR), 2, turns=turns)
        self.same(Played(Program(PAIR), 2, turns=(right, (1, 0) * 6)).turns[1], (1, 0) * 6)

    def test_turns_are_of_hands_of_what_is_played(self):
        few = Played(Program(ROUNDS), 2)
        self.same(Played(few, 1, turns=((1, 0),)).turns, ((1, 0),))
        self.refuses(BadTurns, ((0, 1, 2),), Played, few, 1, turns=((0, 1, 2),))

    def test_equality(self):
        few = Played(Program(PAIR), 2)
        self.equal(few, Played(Program(PAIR), 2))
        self.equal(few, Played(Program(PAIR), 2, turns=((0, 1), (0, 1))))
        for other in (Played(Program(PAIR), 3), Played(Program(LEAST), 2), Played(Program(PAIR), 2, turns=((0, 1), (1, 0))),
                      Played(few, 2), Program(PAIR)):
            self.unequal(few, other)
        self.equal(Played(few, 2), Played(Played(Program(PAIR), 2), 2))
        for value in some_values():
            if not isinstance(value, Played):
                self.unequal(few, value)
        self.no_operators(few)
        self.assertRaises(TypeError, len, few)

    def test_words(self):
        few = Played(Program(PAIR), 3)
        for words in ((3, 7), (3, 7, 5, 5), (3, 7, True), [3, 7, 5]):
            self.refuses(BadWords, words, House, few, words)


class Visits(Case):
    def test_one_player(self):
        """A player alone passes each door at once, and goes by turns."""
        house = House(Played(Program(PAIR), 1), (3,))
        first, second = ((None, None), ((0, 0, 1, 3),)), ((None, None), ((0, 0, 2, 3),))
        self.same(steps_alone(house, 0)[:4], [(0, "write", first), (0, "look", (first,)), (0, "write", second), (0, "look", (second,))])
        # Door 0 of hand 1, then each hand's write, then hand 0's look, with which it says.
        steps = house.run[4:]
        self.same([step[1] for step in steps], ["write", "look", "write", "look", "write", "write", "look", "write", "look", "write", "look", "say"])
        self.same(steps[4][2], (((1, 3), None), ((0, 0, 2, 3), (1, 0, 2, 3))))
        self.same(steps[5][2], (((1, 3), (1, 3)), ((0, 0, 2, 3), (1, 0, 2, 3))))
        self.same(steps[7][2][1], ((0, 0, 2, 3), (0, 1, 1, (3, 3)), (1, 0, 2, 3)))
        self.same(steps[9][2][1], ((0, 0, 2, 3), (0, 1, 2, (3, 3)), (1, 0, 2, 3)))
        self.same([steps[-1], house.said, house.next(0)], [(0, "say", 3), (3,), None])

    def test_turns_told_otherwise(self):
        house = House(Played(Program(PAIR), 1, turns=((1, 1, 0, 1),)), (3,))
        house.weave((0,) * 5)
        self.same(house.boards, (((None, (1, 3)), ((1, 0, 2, 3),)),))
        # A visit to hand 0, a visit to hand 1, and it is hand 1's turn again.
        house.weave((0,) * 4)
        self.same(house.boards[0][1], ((0, 0, 2, 3), (1, 0, 2, 3)))
        house.weave((0,) * 2)
        self.same(house.boards[0][1], ((0, 0, 2, 3), (1, 0, 2, 3), (1, 1, 1, (None, 3))))

    def test_number_and_value_of_writes(self):
        house = House(Played(Program(LONG), 1), (3,))
        writes = [step[2][0] for step in steps_alone(house, 0) if step[1] == "write"]
        self.same([row for at, row in enumerate(writes) if at == 0 or row != writes[at - 1]],
                  [(None, None), ((1, 3), None), ((1, 3), (1, 3)), ((2, 4), (1, 3)), ((2, 4), (2, 4)), ((3, 2), (2, 4))])

    def test_what_is_brought_is_the_newest_that_any_board_shows(self):
        house = House(Played(Program(LONG), 2), (3, 7))
        # Player 0 goes on to hand 0's second write, then player 1 passes the doors 0, and writes once.
        house.weave((0,) * 11)
        self.same(house.boards[0][0], ((2, 4), (1, 3)))
        house.weave((1,) * 10)
        self.same(house.boards[1][0], ((1, 3), (1, 3)))
        house.weave((1,) * 2)
        self.same(house.boards[1][0], ((2, 4), (2, 4)))
        house.weave((0,) * 2)
        self.same([house.run[-1][1], house.run[-2][1], house.next(0)[1][1][1]], ["look", "write", (0, 1, 1, (4, 4))])
        house = House(Played(Program(LONG), 2), (3, 7))
        house.weave((0,) * 12 + (1,) * 10)
        # Player 1 knows one write of each hand less than player 0 shows.
        house.weave((0,))
        self.same([house.boards[1][0], house.next(0)[1][1][1]], [((1, 3), (1, 3)), (0, 1, 1, (4, 4))])

    def test_doors_are_shut_by_who_stands_at_1(self):
        house = House(Played(Program(PAIR), 2), (3, 7))
        house.step(1)
        house.weave((0,) * 4)
        # Told nothing, player 0 visits the other hand, and comes back to ask again.
        self.same([house.run[-1][1], house.next(0)], ["look", ("write", ((None, None), ((0, 0, 2, 3), (1, 0, 1, 3))))])
        house.weave((0,) * 4)
        self.same(house.next(0), ("look",))
        house.step(0)
        self.same(house.next(0), ("write", ((None, (1, 3)), ((0, 0, 2, 3), (1, 0, 2, 3)))))
        house.step(0)
        house.step(0)
        self.same([house.next(0), behind(house)], [("look",), ((0, 1), (0, 0))])

    def test_the_least_player_at_2_is_heard(self):
        house = House(Played(Program(PAIR), 3), (3, 7, 5))
        house.weave((2, 1, 2, 1, 0, 2, 0))
        # 2 and 1 both see nobody at 2; 0 looks too late.
        house.weave((1, 0))
        self.same([board[1][0][2] for board in house.boards], [0, 2, 2])
        house.weave((2, 0, 1))
        self.same([house.next(hand)[1][1][1] for hand in (0, 1, 2)], [(1, 0, 1, 3), (1, 0, 1, 7), (1, 0, 1, 5)])
        house.weave((0, 1, 2) * 4)
        for player in (0, 1, 2):
            house.weave((player,) * 2)
        self.same([board[0][0] for board in house.boards], [(1, 7)] * 3)

    def test_players_that_never_come(self):
        house = House(Played(Program(PAIR), 3), (None, 7, None))
        self.same(house.weave((0, 2) * 20), ())
        steps_alone(house, 1)
        self.same([house.said, house.boards[0], house.boards[2]], [(None, 7, None), None, None])
        self.refuses(Done, 0, forget, house, 0)

    def test_who_comes_late_is_told_what_the_others_were(self):
        house = House(Played(Program(PAIR), 2), (3, 7))
        steps_alone(house, 0)
        steps_alone(house, 1)
        self.same(house.said, (3, 3))
        self.same({row[2] for row in house.boards[1][1] if row[:2] in [other[:2] for other in house.boards[0][1]]}, {0})

    def test_each_look_of_a_wait_is_a_door(self):
        house = House(Played(Program(WAITING), 2, turns=((0, 0, 1), (0, 1))), (3, 7))
        steps_alone(house, 0)
        doors = [row[:2] for row in house.boards[0][1] if row[0] == 0]
        self.same(doors, [(0, door) for door in range(len(doors))])
        self.assertGreater(len(doors), 2)
        self.same([row[3] for row in house.boards[0][1] if row[0] == 0][1:],
                  [(3, None)] * (len(doors) - 2) + [(3, 3)])

    def test_a_say_without_a_step(self):
        house = House(Played(Program("hands 2\nsay mine"), 2), (3, 7))
        self.same([step[1] for step in steps_alone(house, 1)], ["write", "look", "write", "look", "say"])
        self.same(steps_alone(house, 0)[-1], (0, "say", 7))

    def test_hands_that_part(self):
        door = "wlwl"
        for turns, said, kinds in (((0, 1, 2), 5, door * 2), ((2, 0, 1), 5, door * 3), ((2, 2, 0, 1), 9, door + "w"),
                                   ((0, 0, 2, 1), 0, door + "l" + door)):
            house = House(Played(Program(PARTING), 1, turns=(turns,)), (5,))
            self.same("".join([step[1][0] for step in steps_alone(house, 0)]), kinds + "s")
            self.same(house.said, (said,))

    def test_played_of_played(self):
        house = House(Played(Played(Program(PAIR), 2), 2), (3, 7))
        house.weave((0,) * 4)
        inner = ((None, None), ((0, 0, 1, 3),))
        # Hands are players here: what one writes first is its own board, of level 1.
        house.weave((0,) * 4)
        self.same(house.next(0), ("write", (((1, inner), None), ((0, 0, 2, 3), (1, 0, 2, 3)))))
        steps_alone(house, 0)
        steps_alone(house, 1)
        self.same(house.said, (3, 3))


class Forgetting(Case):
    def test_errors_in_sequence(self):
        played = House(Played(Program(PAIR), 2), (3, None))
        for value in some_values() + [House(Program(PAIR), (3, 7)), Played(Program(PAIR), 2), House, None]:
            self.refuses(NotPlayed, value, forget, value, None)
        for value in (*NO_HANDS, 2):
            self.refuses(BadHand, value, forget, played, value)
        self.refuses(Done, 1, forget, played, 1)
        steps_alone(played, 0)
        run = played.run
        self.refuses(Done, 0, forget, played, 0)
        self.same(played.run, run)

    def test_a_forget(self):
        house = House(Played(Program(PAIR), 2), (3, 7))
        house.weave((0,) * 9)
        boards = house.boards
        self.same(forget(house=house, player=0), None)
        self.same([house.run[-1], len(house), house.boards, house.said], [(0, "forget", None), 10, boards, (None, None)])
        self.same(behind(house)[0], (0, 0))

    def test_ahead_of_the_first_step(self):
        house = House(Played(Program(PAIR), 2), (3, 7))
        forget(house, 0)
        forget(house, 0)
        self.same([house.next(0), house.boards], [("write", ((None, None), ((0, 0, 1, 3),))), (None, None)])

    def test_a_look_that_is_not_written_yet_is_lost(self):
        house = House(Played(Program(PAIR), 1), (3,))
        house.weave((0,) * 11)
        self.same([house.run[-1][1], house.next(0)[1][1][1]], ["look", (0, 1, 1, (3, 3))])
        forget(house, 0)
        # It asks at both doors 0, and looks once more ahead of writing.
        self.same([step[1] for step in house.weave((0,) * 3)], ["look"] * 3)
        self.same(house.next(0)[1][1][1], (0, 1, 1, (3, 3)))

    def test_at_level_1(self):
        house = House(Played(Program(PAIR), 2), (3, 7))
        house.step(0)
        forget(house, 0)
        self.same([house.next(0), house.step(0)[1]], [("look",), "look"])
        forget(house, 0)
        house.step(0)
        self.same(house.next(0), ("write", ((None, None), ((0, 0, 2, 3),))))
        house.step(0)
        # It asks there by its turns.
        self.same([house.step(0)[1], house.next(0)], ["look", ("write", ((None, None), ((0, 0, 2, 3), (1, 0, 1, 3))))])

    def test_at_level_1_of_a_late_door_it_mends_first(self):
        house = House(Played(Program(PAIR), 2, turns=((0, 1), (1, 0))), (3, 7))
        house.weave((0,) * 5)
        self.same(house.boards[0][1], ((0, 0, 2, 3), (1, 0, 1, 3)))
        house.weave((1,) * 4)
        forget(house, 0)
        house.step(0)
        self.same(house.next(0), ("write", ((None, None), ((0, 0, 2, 3), (1, 0, 0, 3)))))
        house.step(0)
        # Then its turns begin: it asks at door 0 of hand 0 and of hand 1.
        house.weave((0, 0))
        self.same(house.next(0), ("write", (((1, 3), None), ((0, 0, 2, 3), (1, 0, 0, 3)))))

    def test_no_write_is_done_again(self):
        house = House(Played(Program(LONG), 1, turns=((0, 1, 1),)), (3,))
        while house.boards[0] is None or house.boards[0][0] != ((2, 4), (2, 4)):
            house.step(0)
        board = house.boards[0]
        forget(house, 0)
        self.same(behind(house), ((0, 0),))
        steps = []
        while house.next(0)[0] != "write":
            steps.append(house.step(0))
        self.same([step[1] for step in steps], ["look"] * 4)
        # Its asking at door 0 of both, and at door 1 of hand 1, which it had passed; then a look for hand 0.
        self.same([house.boards[0], behind(house)], [board, ((2, 3),)])
        self.same(house.next(0)[1][1][1], (0, 1, 1, (4, 4)))

    def test_passing_over_comes_as_the_visit_begins(self):
        house = House(Played(Program(LONG), 1), (3,))
        house.weave((0,) * 12)
        self.same([house.boards[0][0], behind(house)], [((2, 4), (2, 4)), ((2, 2),)])
        forget(house, 0)
        house.step(0)
        self.same(behind(house), ((0, 0),))
        house.step(0)
        # Behind its asking at hand 1 the visit to hand 0 begins: both writes are passed over.
        self.same([behind(house), house.next(0)], [((2, 0),), ("look",)])
        house.weave((0,) * 4)
        self.same(behind(house), ((2, 0),))
        house.step(0)
        self.same(behind(house), ((3, 2),))

    def test_behind_the_last_write(self):
        """Who forgets behind the last write comes to the say without a step."""
        house = House(Played(Program(text_of("write mine", "say mine")), 1), (3,))
        house.weave((0,) * 9)
        self.same([house.next(0), behind(house)], [("say", 3), ((2, 0),)])
        forget(house, 0)
        house.weave((0,))
        self.same([house.next(0), behind(house)], [("look",), ((0, 0),)])
        house.weave((0,))
        self.same([house.next(0), behind(house)], [("say", 3), ((2, 0),)])
        self.same(house.step(0), (0, "say", 3))

    def test_again_and_again(self):
        """Who forgets ahead of each step, at whichever board, ends well as soon as it forgets no more."""
        for every in (1, 2, 3, 5, 8):
            for words in ((3, 7), (3, None)):
                house = House(Played(Program(PAIR), 2), words)
                for _ in range(60):
                    for player in (0, 1):
                        house.weave((player,) * every)
                        if house.next(player) is not None:
                            forget(house, player)
                for player in (0, 1):
                    steps_alone(house, player)
                self.assertEqual(len({word for word in house.said if word is not None}), 1)
                self.same(judged(house.program, words, house.run), ("run",))

    def test_a_forget_of_one_leaves_the_others(self):
        house = House(Played(Program(PAIR), 3), (3, 7, 5))
        house.weave((0, 1, 2, 2, 1, 0) * 4)
        dues = [house.next(player) for player in (0, 2)]
        forget(house, 1)
        self.same([house.next(player) for player in (0, 2)], dues)


class PlainestTelling(Case):
    def test_all_of_it(self):
        """Random programs, players, turns, words and weavings, with forgetting ahead of any step."""
        steps = forgets = says = 0
        for seed in range(450):
            maker = Maker(seed)
            any_of = maker.any
            text = maker.program()
            try:
                program = Program(text)
            except (BadProgram, Wide):
                continue
            if program.boxes or any_of.random() < 0.5:
                text = any_of.choice([PAIR, LONG, WAITING, PARTING, ROUNDS])
                program = Program(text)
            plain = PlainProgram(text)
            for _ in range(any_of.choice([1, 1, 1, 2])):
                many, hands = any_of.randint(1, 4), program.many
                turns = tuple([tuple(any_of.sample(range(hands), hands) + [any_of.randrange(hands) for _ in range(any_of.randint(0, 4))])
                               for _ in range(many)]) if any_of.random() < 0.4 else None
                program, plain = Played(program, many, turns=turns), PlainPlayed(plain, many, turns)
            words = tuple([None if any_of.random() < 0.1 else any_of.randint(0, 99) for _ in range(many)])
            house, other = House(program, words), PlainHouse(plain, words)
            often, player = any_of.choice([0, 0.02, 0.1, 0.3]), 0
            for _ in range(any_of.choice([30, 100, 200])):
                player = any_of.randrange(many) if any_of.random() < 0.4 else player
                self.assertEqual(house.next(player), other.next(player), (seed, text))
                if house.next(player) is None:
                    continue
                if any_of.random() < often:
                    forget(house, player)
                    other.forget(player)
                    forgets += 1
                else:
                    self.assertEqual(house.step(player), other.step(player), (seed, text))
                    steps += 1
                    if any_of.random() < 0.05:
                        house = house.copy()
            says += len([word for word in house.said if word is not None])
            self.one_word_a_door(house, other)
            self.assertEqual([house.boards, house.said, house.run], [tuple(other.boards), tuple(other.said), tuple(other.run)])
            self.same([judged(program, words, house.run), len(house)], [("run",), len(other.run)])
        self.assertGreater(min(steps, forgets * 5, says * 25), 5000)

    def one_word_a_door(self, house, plain):
        """All who are told a word at a door are told the same one, and its winner's board shows it there."""
        words = {}
        for _, _, what, *news in plain.news:
            if what == "told":
                hand, door, winner, value = news
                self.assertEqual(words.setdefault((hand, door), (winner, value)), (winner, value))
                self.assertIn((hand, door, 2, value), house.boards[winner][1])


if __name__ == "__main__":
    unittest.main()
