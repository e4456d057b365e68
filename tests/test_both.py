"""Point 14: both ways; and guarantee (g) of point 3."""

import random
import unittest
from itertools import combinations, product

from fewplaymany.both import few, many_of, same_by, shows_same_by, solved, wall
from fewplaymany.boxes import Filled
from fewplaymany.chains import chosen, shows_chosen
from fewplaymany.errors import BadMany, BadStops, HasBoxes, NoProgram, OtherWords
from fewplaymany.houses import House
from fewplaymany.players import forget, Played
from fewplaymany.programs import Program
from fewplaymany.tables import Tabled
from fewplaymany.tasks import Task
from helpers import ASKING, bent, Case, PAIR, programs_barred, some_values, text_of
from test_chains import AGREE, APART, NEAR, pairs_task, sampled, walk_task
from test_tasks import all_lots, plainly_right, some_task


def judge(task, house):
    """Whether what is said in a House is right for what is brought, told anew."""
    brought = {house.words[step[0]] for step in house.run}
    said = [word for word in house.said if word is not None]
    return not said or plainly_right(task, brought, said)


class Solved(Case):
    def does(self, task, program, stops, any_of):
        """One run of a program: what is said is right at every moment, and who goes on says."""
        hands = range(program.many)
        away = [hand for hand in hands if any_of.random() < 0.3][:stops]
        late = any_of.sample([hand for hand in hands if hand not in away], stops - len(away))
        words = tuple([None if hand in away else any_of.choice(task.words) for hand in hands])
        house, hand = House(program, words), 0
        # Amid its steps, or ahead of the first one, somebody may stop.
        for _ in range(any_of.choice((0, 3, 10, 30, 60))):
            hand = any_of.randrange(program.many) if any_of.random() < 0.5 else hand
            house.weave((hand,) * any_of.randint(1, 3))
            self.assertTrue(judge(task, house), (task.text, house.run))
        going = [hand for hand in hands if hand not in away and hand not in late]
        for _ in range(400):
            house.weave(tuple(going))
        self.assertTrue(judge(task, house), (task.text, house.run))
        self.assertEqual([hand for hand in going if house.said[hand] is None], [], (task.text, program.many, stops, house.run[-5:]))

    def test_programs_do_their_tasks(self):
        kinds = []
        for seed in range(60):
            any_of = random.Random(seed)
            task = pairs_task(seed, 4, 5) if seed % 3 else some_task(seed)
            for many, stops in product((1, 2, 3, 4), (0, 1)):
                if stops < many:
                    found = solved(task, many, stops)
                    kinds.append(found[0])
                    self.same(found[0], "program" if stops == 0 or chosen(task)[0] == "words" else "none")
                    if found[0] == "none":
                        self.same(shows_chosen(task, found), True)
                        continue
                    self.same([found[1].many, found[1].boxes], [many, 0])
                    for _ in range(4):
                        self.does(task, found[1], stops, any_of)
        self.assertGreater(min(kinds.count("program"), kinds.count("none")), 10)

    def test_walks(self):
        for task in (Task(NEAR), Task(APART), walk_task(7), walk_task(0), Task("5 : 7"), wall(3), wall(4), Task(wall(3).text + "\n0 1 2 : 7")):
            for many, stops in ((2, 1), (3, 1), (4, 1), (4, 0), (1, 0)):
                for seed in range(12):
                    self.does(task, solved(task=task, many=many, stops=stops)[1], stops, random.Random(seed))

    def test_everybody_waits_where_nobody_stops(self):
        program = solved(Task(AGREE), 3, 0)[1]
        house = House(program, (None, 0, 1))
        house.weave((1, 2) * 100)
        self.same(house.said, (None, None, None))
        for words in product((0, 1), repeat=3):
            house = House(program, words)
            house.weave((2, 1, 0) * 20)
            self.same(len(set(house.said)), 1)

    def test_nobody_can(self):
        for task in (Task(AGREE), wall(2), Task("0 : 0\n3 : 3\n0 3 : 0 1 | 2 3")):
            for many in (2, 3, 4):
                found = solved(task, many, 1)
                self.same([found[0], found, shows_chosen(task, found)], ["none", chosen(task), True])

    def test_greatest_tasks(self):
        task = Task("\n".join([f"{word} : {90 + word}" for word in range(6)]
                              + [f"{one} {other} : {90 + one} {90 + other}" for one, other in combinations(range(6), 2)][:14]))
        self.same([solved(task, 4, 0)[0], solved(task, 4, 1)[0]], ["program", "none"])
        for seed in range(10):
            self.does(task, solved(task, 4, 0)[1], 0, random.Random(seed))

    def test_errors_in_sequence(self):
        for many in (0, 5, -1, True, None, "2", (2,), 2.0, []):
            self.refuses(BadMany, many, solved, Task(NEAR), many, None)
        for stops in (-1, 2, 3, True, False, None, "0", (0,), 1.0, {}):
            self.refuses(BadStops, stops, solved, Task(NEAR), 3, stops)
        self.refuses(BadStops, 1, solved, Task(NEAR), 1, 1)
        self.same(solved(Task(NEAR), 1, 0)[1].many, 1)


class Ways(Case):
    def test_few(self):
        for stops in range(4):
            self.same(few(Program(PAIR), stops), Played(Program(PAIR), stops + 1))
        self.same(few(program=Tabled(2, 1, ()), stops=0), Played(Tabled(2, 1, ()), 1))

    def test_many_of(self):
        for many in range(1, 5):
            self.same(many_of(Program(PAIR), many), Played(Program(PAIR), many))
        self.same(many_of(program=few(Program(PAIR), 1), many=3), Played(Played(Program(PAIR), 2), 3))

    def test_errors_in_sequence(self):
        for value in programs_barred():
            self.refuses(NoProgram, value, few, value, None)
            self.refuses(NoProgram, value, many_of, value, None)
        asks = Filled(Program("hands 2\nask 0 1 a\nask 1 1 b\nsay a"), 0, Program(PAIR))
        for program in (Program(ASKING), asks):
            self.refuses(HasBoxes, program, few, program, None)
            self.refuses(HasBoxes, program, many_of, program, None)
        for stops in (-1, 4, True, False, None, "0", (0,), 1.0):
            self.refuses(BadStops, stops, few, Program(PAIR), stops)
        for many in (0, 5, True, None, "1", (1,), 2.0):
            self.refuses(BadMany, many, many_of, Program(PAIR), many)

    def test_there_and_back(self):
        # A program for four hands of which one may stop, by two that never wait, and again by three of whom one may stop.
        waits = Program(text_of("write mine", "wait s less 2 count s", "say least s", hands=4))
        self.same(House(waits, (1, 2, 3, 4)).program.waits, True)
        once = few(waits, 1)
        for seed in range(20):
            any_of = random.Random(seed)
            house = House(once, (5, 7))
            house.weave(tuple([any_of.randrange(2) for _ in range(any_of.randint(0, 80))]))
            hand = any_of.randrange(2)
            house.weave((hand,) * 300)
            self.assertIn(house.said[hand], (5, 7))
        twice = many_of(once, 3)
        for seed in range(10):
            any_of = random.Random(seed)
            house = House(twice, (5, 7, 8))
            house.weave(tuple([any_of.randrange(3) for _ in range(any_of.randint(0, 200))]))
            if house.next(0) is not None:
                forget(house, 0)
            house.weave((0, 2) * 1000)
            self.assertTrue(house.said[0] in (5, 7, 8) and house.said[2] in (5, 7, 8))


class Parts(Case):
    def test_against_all_lots(self):
        kinds, any_of = [], random.Random(8)
        for seed in range(120):
            one = some_task(seed)
            lines = [line for line in one.text.split("\n") if " " not in line.split(" : ")[0] or any_of.random() < 0.7]
            if any_of.random() < 0.3:
                lines[0] += f" | {one.spoken[0]}"
            any_of.shuffle(lines)
            other = Task("\n".join(lines))
            for stops in range(4):
                parts = [(brought, said) for brought in all_lots(one.words, 1) if len(brought) <= stops + 1
                         for said in all_lots(one.spoken) if plainly_right(one, brought, said) != plainly_right(other, brought, said)]
                found = same_by(one, other, stops)
                kinds.append(found[0])
                self.same(found[0], "parts" if parts else "same")
                self.assertTrue(found == ("same",) or found[1:] in parts)
                self.same([shows_same_by(one, other, stops, found), shows_same_by(other, one, stops, found)], [True, True])
                self.same(shows_same_by(one, other, stops, ("same",)), not parts)
                for value in sampled(any_of, bent(found), 12) + [("parts", *pair) for pair in sampled(any_of, parts, 5)]:
                    right = not parts if len(value) == 1 else value[1:] in parts if len(value) == 3 else False
                    right = right and any(repr(value) == repr(same) for same in [("same",)] + [("parts", *pair) for pair in parts])
                    self.same(shows_same_by(one, other, stops, value), right, value)
        self.assertGreater(min(kinds.count("same"), kinds.count("parts")), 40)

    def test_lots_of_each_size(self):
        for size in (1, 2, 3, 4):
            lot = " ".join(map(str, range(size)))
            lines = "0 : 0\n1 : 1\n2 : 2\n3 : 3"
            one = Task(lines if size > 1 else lines.replace("0 : 0", "0 : 9"))
            other = Task(f"{lines}\n{lot} : 9" if size > 1 else lines)
            for stops in range(4):
                found = same_by(one=one, other=other, stops=stops)
                self.same(found[0], "parts" if stops + 1 >= size else "same")
                self.same(shows_same_by(one=one, other=other, stops=stops, value=("parts", tuple(range(size)), (9,))), stops + 1 >= size)

    def test_ends_of_lines_that_come_together(self):
        # The same is right by other lines.
        one, other = Task("0 : 0\n1 : 1\n0 1 : 0 1"), Task("0 : 0\n1 : 1\n0 1 : 0 | 0 1 | 1")
        self.same([same_by(one, other, stops) for stops in range(4)], [("same",)] * 4)
        self.same(same_by(one, one, 3), ("same",))

    def test_what_is_shown(self):
        one, other = Task("0 : 0 1\n1 : 0 1"), wall(2)
        self.same([shows_same_by(one, other, 1, ("parts", (0, 1), said)) for said in ((0, 1), (0,), (), (1,))], [True, False, False, False])
        for value in (("parts", (), (0, 1)), ("parts", (0, 2), (0, 1)), ("parts", (0, 1), (1, 0)), ("parts", [0, 1], (0, 1)), ("same", (0, 1), (0, 1)),
                      ("parts", (0, 1)), ("parts", (False,), (0, 1)), ("parts", (0,), (0, True)), ["parts", (0, 1), (0, 1)], ("same",), None,
                      ("parts", (0, 1), None), ("parts", 0, (0, 1)), *some_values()):
            self.same(shows_same_by(one, other, 1, value), False, value)
        self.same(shows_same_by(one, other, 0, ("parts", (0, 1), (0, 1))), False)
        for value in some_values() + [["same"], ("same", None), "same", (("same",),)]:
            self.same(shows_same_by(one, one, 0, value), False)

    def test_errors_in_sequence(self):
        for other in (Task("0 : 0"), Task("0 : 0\n2 : 1"), Task("0 : 0\n1 : 1\n2 : 2")):
            self.refuses(OtherWords, other, same_by, wall(2), other, None)
            self.refuses(OtherWords, other, shows_same_by, wall(2), other, None, None)
        for stops in (-1, 4, True, False, None, "0", (0,), 1.0, []):
            self.refuses(BadStops, stops, same_by, wall(2), wall(2), stops)
            self.refuses(BadStops, stops, shows_same_by, wall(2), wall(2), stops, ("same",))
        self.same(same_by(Task("0 : 5\n1 : 5"), Task("1 : 5\n0 : 5"), 3), ("same",))


class Walls(Case):
    def test_texts(self):
        self.same(wall(2), Task("0 : 0\n1 : 1"))
        self.same(wall(many=3).text.split("\n"), ["0 : 0", "1 : 1", "2 : 2", "0 1 : 0 1", "0 2 : 0 2", "1 2 : 1 2"])
        self.same([line.split(" : ")[0] for line in wall(4).text.split("\n")],
                  ["0", "1", "2", "3", "0 1", "0 2", "0 3", "1 2", "1 3", "2 3", "0 1 2", "0 1 3", "0 2 3", "1 2 3"])
        for left, ends in wall(4).lines:
            self.same(ends, (left,))

    def test_what_may_be_said(self):
        for many in (2, 3, 4):
            task = wall(many)
            for brought in all_lots(range(many), 1):
                for said in all_lots(range(many)):
                    self.same(task.right(brought, said), set(said) <= set(brought) and len(said) < many)

    def test_who_can(self):
        self.same([solved(wall(many), 4, 1)[0] for many in (2, 3, 4)], ["none", "program", "program"])

    def test_bad_many(self):
        for many in (0, 1, 5, -1, True, None, "2", (2,), 2.0, []):
            self.refuses(BadMany, many, wall, many)


if __name__ == "__main__":
    unittest.main()
