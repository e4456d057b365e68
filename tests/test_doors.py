"""Point 8: doors; and guarantees (d) and (j) of point 3, of them."""

import random
import unittest

from fewplaymany.doors import Door, held_by, may_come
from fewplaymany.errors import BadHand, BadMany, BadValue, CameIn, NotCome
from fewplaymany.houses import House
from fewplaymany.programs import Program
from helpers import Case, NO_HANDS, PAIR, some_values

DEEPEST = None
for _ in range(12):
    DEEPEST = (DEEPEST,)

VALUES = (None, 0, 7, -7, 9999, -9999, (), (None,), (1, (2, (None, ()))), (0,) * 60, ((0,) * 60,) * 3, DEEPEST, (DEEPEST[0], 1))
NO_VALUES = (True, False, "", "7", [], [1], {}, b"", 10000, -10000, 123456, 7.0, (True,), (1, (False,)), (1, [2]), ([],), ("",),
             (0,) * 61, ((0,) * 61,), (DEEPEST,), (1, DEEPEST), (1, (2, 10000)), ((((-10000,),),),), ({},), ((), ((), ("",))))


def state(door):
    """All that a Door tells of itself."""
    nexts = [door.next(player) for player in range(door.many)]
    return (door.many, door.came, door.levels, door.heard, len(door), nexts, held_by(door), may_come(door))


class PlainDoor:
    """A second, plainest telling of a door."""

    def __init__(self, many):
        self.many = many
        self.came = {}
        self.levels = [None] * many
        self.heard = {}
        self.going = {}

    def come(self, player, value):
        self.came[player] = value
        self.going[player] = self.goes(player)

    def step(self, player):
        return next(self.going[player])

    def goes(self, player):
        self.levels[player] = 1
        yield ("level", 1)
        seen = tuple(self.levels)
        yield ("look", seen)
        self.levels[player] = 0 if 2 in seen else 2
        yield ("level", self.levels[player])
        while True:
            if 1 in self.levels:
                yield ("wait",)
                continue
            self.heard[player] = self.came[[other for other in range(self.many) if self.levels[other] == 2][0]]
            yield ("word", self.heard[player])


def told_next(door):
    """All values that can be the next told word, found by going through all weavings of those who came."""
    left, met, found = [door], set(), []
    while left:
        one = left.pop()
        for player in range(one.many):
            if one.came[player] is None:
                continue
            more = one.copy()
            told = more.step(player)
            if told[0] == "word":
                found.append((player, told[1]))
                continue
            key = (more.levels, tuple([more.next(other) for other in range(more.many)]), more.seen)
            if key not in met:
                met.add(key)
                left.append(more)
    return [value for _, value in found]


def woven(any_of, many, times, values):
    """A door at which so many things were done."""
    door = Door(many)
    for _ in range(times):
        player = any_of.randrange(many)
        if door.next(player) is None:
            door.come(player, any_of.choice(values))
        else:
            door.step(player)
    return door


class Making(Case):
    def test_properties(self):
        for many in (1, 2, 3, 4, 5):
            none = (None,) * many
            self.same(state(Door(many=many)), (many, none, none, none, 0, [None] * many, (), ()))

    def test_bad_many(self):
        for many in (0, 6, -1, 100, True, False, None, "3", (3,), [3], {}, 3.0):
            self.refuses(BadMany, many, Door, many)

    def test_equality(self):
        def done(*deeds):
            door = Door(3)
            for deed in deeds:
                if isinstance(deed, tuple):
                    door.come(*deed)
                else:
                    door.step(deed)
            return door

        self.equal(done(), Door(3))
        self.unequal(Door(3), Door(2))
        self.equal(done((0, 5), 0, (1, 5), 1), done((0, 5), 0, (1, 5), 1))
        self.unequal(done((0, 5)), done((0, 6)))
        self.unequal(done((0, None)), done((1, None)))
        self.unequal(done((0, None)), done())
        # The same comings and the same steps, in another sequence.
        self.unequal(done((0, 5), (1, 6)), done((1, 6), (0, 5)))
        self.unequal(done((0, 5), 0, (1, 6)), done((0, 5), (1, 6), 0))
        self.unequal(done((0, 5), (1, 6), 0, 1), done((0, 5), (1, 6), 1, 0))
        asked = done((0, 5), 0, 0, 0, 0)
        again = done((0, 5), 0, 0, 0, 0, 0)
        self.same([asked.levels, asked.heard], [again.levels, again.heard])
        self.unequal(asked, again)
        for value in some_values():
            self.unequal(done(), value)
        self.no_operators(done((0, 5), 0))


class Steps(Case):
    def test_alone(self):
        door = Door(1)
        self.same([door.come(0, (1, None)), door.came, door.next(0), len(door)], [None, ((((1, None)),),), "level", 0])
        self.same([door.step(0), door.next(0), held_by(door)], [("level", 1), "look", (0,)])
        self.same([door.step(0), door.next(0), door.levels], [("look", (1,)), "level", (1,)])
        self.same([door.step(0), door.next(0), door.levels, door.heard], [("level", 2), "ask", (2,), (None,)])
        self.same([door.step(0), door.heard, door.next(0), door.step(player=0), len(door)],
                  [("word", (1, None)), (((1, None),),), "ask", ("word", (1, None)), 5])

    def test_what_is_none_can_be_brought(self):
        door = Door(2)
        door.come(player=1, value=None)
        self.same([door.came, may_come(door)], [(None, (None,)), (None,)])
        for _ in range(3):
            door.step(1)
        self.same([door.step(1), door.heard], [("word", None), (None, (None,))])

    def test_values(self):
        for value in VALUES:
            door = Door(2)
            door.come(0, value)
            self.same(door.came, ((value,), None))
        for value in NO_VALUES:
            self.refuses(BadValue, value, door.come, 1, value)
            self.refuses(BadValue, value, door.come, 0, value)
        for value in (House(Program(PAIR), (1, 2)), Program(PAIR), door):
            self.refuses(BadValue, value, door.come, 1, value)
        self.same(door.came, ((VALUES[-1],), None))

    def test_errors_in_sequence(self):
        door = Door(3)
        door.come(0, 5)
        door.step(0)
        before = state(door)
        for value in (*NO_HANDS, 3):
            self.refuses(BadHand, value, door.come, value, "no value")
            self.refuses(BadHand, value, door.step, value)
            self.refuses(BadHand, value, door.next, value)
        self.refuses(BadValue, True, door.come, 0, True)
        self.refuses(CameIn, 0, door.come, 0, 5)
        self.refuses(CameIn, 0, door.come, 0, 6)
        self.refuses(NotCome, 1, door.step, 1)
        self.same(state(door), before)
        self.same(door.next(player=1), None)
        equal = Door(3)
        equal.come(0, 5)
        equal.step(0)
        self.equal(door, equal)

    def test_who_comes_late(self):
        door = Door(3)
        door.come(2, 5)
        for _ in range(3):
            door.step(2)
        door.come(0, 7)
        self.same([door.step(2), door.step(0), door.step(2), held_by(door)], [("word", 5), ("level", 1), ("wait",), (0,)])
        self.same([door.step(0), door.step(0), door.levels], [("look", (1, None, 2)), ("level", 0), (0, None, 2)])
        self.same([door.step(0), door.heard], [("word", 5), ((5,), None, (5,))])

    def test_who_stops_at_1_bars_all(self):
        door = Door(4)
        for player in range(4):
            door.come(player, player)
        door.step(3)
        for player in (0, 1, 2):
            for _ in range(3):
                door.step(player)
        self.same([door.levels, held_by(door)], [(2, 0, 0, 1), (3,)])
        for player in (0, 1, 2):
            self.same([door.step(player), door.step(player)], [("wait",), ("wait",)])
        self.same([door.heard, len(door)], [(None,) * 4, 16])

    def test_copies(self):
        for seed in range(40):
            any_of = random.Random(seed)
            door = woven(any_of, any_of.randint(1, 5), any_of.randint(0, 20), (1, 2, 3))
            copy, before = door.copy(), state(door)
            self.equal(copy, door)
            self.same(state(copy), before)
            came = [player for player in range(door.many) if door.came[player] is not None]
            if not came:
                copy.come(0, 1)
                self.unequal(copy, door)
                self.same(state(door), before)
                continue
            steps = [copy.step(player) for player in came * 5]
            self.same(state(door), before)
            self.unequal(copy, door)
            self.same([door.step(player) for player in came * 5], steps)
            self.equal(copy, door)
            self.same(state(copy), state(door))

    def test_against_the_plainest_telling(self):
        words = 0
        for seed in range(400):
            any_of = random.Random(seed)
            many = any_of.randint(1, 5)
            door, plain = Door(many), PlainDoor(many)
            steps = 0
            for _ in range(any_of.choice([5, 15, 40])):
                player = any_of.randrange(many)
                if player not in plain.came:
                    self.same(door.next(player), None)
                    value = any_of.choice([1, 2, (3,), None])
                    door.come(player, value)
                    plain.come(player, value)
                    continue
                kind = door.next(player)
                told = door.step(player)
                steps += 1
                self.same(told, plain.step(player))
                self.same(kind, told[0] if told[0] in ("level", "look") else "ask")
                self.same([door.levels, held_by(door), len(door)],
                          [tuple(plain.levels), tuple([at for at in range(many) if plain.levels[at] == 1]), steps])
                # All who are told a word are told the same one, and somebody brought it.
                heard = [thing for thing in door.heard if thing is not None]
                self.same(heard, heard[:1] * len(heard))
                words += len(heard)
                self.assertTrue(all([thing in door.came for thing in heard]))
                self.same(door.heard, tuple([(plain.heard[at],) if at in plain.heard else None for at in range(many)]))
        self.assertGreater(words, 1000)


class MayCome(Case):
    def at(self, many, came, steps, wanted):
        """May_come of a door at which these came, with their numbers as values, and did these steps."""
        door = Door(many)
        for player in came:
            door.come(player, player)
        for player in steps:
            door.step(player)
        self.same(may_come(door=door), wanted)
        self.assertEqual(set(told_next(door)), set(wanted))

    def test_nobody_is_ready(self):
        self.at(3, (), (), ())
        self.at(3, (1,), (), (1,))
        self.at(3, (2, 0), (), (0, 2))
        self.at(5, (4, 3, 2, 1, 0), (0, 3, 4), (0, 1, 2, 3, 4))

    def test_with_ready_ones(self):
        # The least ready one, and each lesser one that did not look.
        self.at(3, (0, 1, 2), (1, 1), (0, 1))
        self.at(3, (0, 1, 2), (2, 2), (0, 1, 2))
        self.at(3, (0, 1, 2), (0, 0), (0,))
        self.at(4, (0, 1, 2, 3), (2, 2, 3, 3, 1), (0, 1, 2))
        self.at(4, (1, 2, 3), (3, 3, 2, 2), (1, 2))
        self.at(4, (1, 3), (3, 3), (1, 3))

    def test_somebody_at_2(self):
        self.at(3, (0, 1, 2), (2, 2, 2), (2,))
        # At 1, having looked and seen nobody at 2; and having seen somebody.
        self.at(3, (0, 1, 2), (2, 1, 1, 2, 2), (1,))
        self.at(3, (0, 1, 2), (2, 2, 2, 1, 1), (2,))
        self.at(3, (0, 1, 2), (1, 1, 2, 2, 2, 0, 0), (1,))
        self.at(3, (0, 1, 2), (1, 1, 2, 2, 1, 0), (1,))
        self.at(4, (0, 1, 2, 3), (2, 2, 3, 3, 3, 0, 1, 1), (2,))
        self.at(3, (0, 1), (1, 1, 1, 1, 1, 0, 0, 0, 0), (1,))

    def test_like_values_are_told_once(self):
        door = Door(4)
        for player, value in ((3, 5), (2, (1,)), (1, 5), (0, None)):
            door.come(player, value)
        self.same(may_come(door), (None, 5, (1,)))
        deep = Door(3)
        for player, value in ((0, DEEPEST), (1, DEEPEST), (2, (DEEPEST[0],))):
            deep.come(player, value)
        self.same(may_come(deep), (DEEPEST,))

    def test_against_all_weavings(self):
        for seed in range(150):
            any_of = random.Random(seed)
            many = any_of.randint(1, 4)
            door = woven(any_of, many, any_of.randint(0, 14), range(9))
            before = state(door)
            wanted = set(told_next(door))
            found = may_come(door)
            self.assertEqual((set(found), len(found)), (wanted, len(wanted)))
            players = [min([at for at in range(many) if door.came[at] == (value,)]) for value in found]
            self.same(players, sorted(players))
            self.same(state(door), before)

    def test_players_by_other_numbers_of_the_same_order(self):
        for seed in range(80):
            any_of = random.Random(seed)
            names = sorted(any_of.sample(range(5), 3))
            one, other = Door(3), Door(5)
            for _ in range(any_of.randint(0, 20)):
                player = any_of.randrange(3)
                if one.next(player) is None:
                    one.come(player, player % 2)
                    other.come(names[player], player % 2)
                else:
                    told, beside = one.step(player), other.step(names[player])
                    self.same(told[0], beside[0])
                    if told[0] != "look":
                        self.same(told, beside)
            self.same(may_come(other), may_come(one))
            self.same(held_by(door=other), tuple([names[player] for player in held_by(one)]))
            self.same([other.heard[name] for name in names], list(one.heard))


if __name__ == "__main__":
    unittest.main()
