"""Point 13: tables of views; and guarantees (f) and (j) of point 3, of tables."""

import random
import unittest
from itertools import combinations, permutations, product

from fewplaymany.chains import rounds
from fewplaymany.errors import BadHand, BadMany, BadRounds, BadTable, BadWeaving, BadWords, Done, NoProgram, TooMany
from fewplaymany.houses import House
from fewplaymany.players import forget, Played
from fewplaymany.programs import Program
from fewplaymany.reads import plain_run, Reads, shows_plain_run, spans
from fewplaymany.runs import judged, run_in, run_text
from fewplaymany.tables import decided, shows_decided, shows_wrong_row, Tabled, views, wrong_row
from fewplaymany.tasks import judged_house, renamed, Task
from fewplaymany.told import shows_told, told
from helpers import bent, Case, PAIR, some_values
from plain_players import PlainHouse, PlainPlayed
from plain_tables import PlainTabled
from test_chains import AGREE, APART, NEAR, pairs_task, sampled
from test_tasks import plainly_right

MINE = ((0, (0, None), 0), (0, (0, 0), 0), (0, (0, 3), 2), (0, (3, None), 3), (0, (3, 0), 1), (0, (3, 3), 3))
ITS = ((1, (None, 0), 0), (1, (None, 3), 3), (1, (0, 0), 0), (1, (0, 3), 1), (1, (3, 0), 2), (1, (3, 3), 3))
WALL = "0 : 0\n1 : 1\n2 : 2\n0 1 : 0 1\n0 2 : 0 2\n1 2 : 1 2"


def value_key(value):
    """What VALUES are sorted by, told anew."""
    return (0, 0) if value is None else (1, value) if isinstance(value, int) else (2, [value_key(thing) for thing in value])


def sights(came):
    """All ways in which those who came see one another in a round: an order of writes, and where looks stand in it."""
    found = set()
    events = [(kind, hand) for hand in came for kind in ("look", "write")]
    for order in permutations(events):
        if all(order.index(("write", hand)) < order.index(("look", hand)) for hand in came):
            found.add(tuple([(hand, tuple(sorted([other for other in came
                                                  if order.index(("write", other)) < order.index(("look", hand))])))
                             for hand in came]))
    return found


SIGHTS = {came: sights(came) for size in (1, 2, 3) for came in combinations(range(3), size)}


def rows_of(many, rounds, words):
    """All rows of views, told anew, in any sequence."""
    came = tuple([hand for hand in range(many) if words[hand] is not None])
    rows = {tuple(words)}
    for _ in range(rounds):
        found = set()
        for row in rows:
            for sight in SIGHTS[came]:
                seen = dict(sight)
                found.add(tuple([tuple([row[other] if other in seen[hand] else None for other in range(many)])
                                 if hand in seen else None for hand in range(many)]))
        rows = found
    return rows


def some_table(any_of, many, rounds, words, part=0.8):
    """A table with entries for a part of the views of these words, and some for others."""
    table = {}
    for brought in product([None, *words], repeat=many):
        if any(word is not None for word in brought):
            for row in sampled(any_of, sorted(rows_of(many, rounds, brought), key=value_key), 12):
                for hand, view in enumerate(row):
                    if view is not None and any_of.random() < part:
                        table[hand, view] = any_of.randint(0, 9)
    return tuple(sorted([(hand, view, said) for (hand, view), said in table.items()], key=value_key))


def is_wrong(task, tabled, words, row):
    """Whether what a table says for a row is not right, told anew."""
    table = {(hand, view): said for hand, view, said in tabled.table}
    said = tuple(sorted({table.get((hand, view), 0) for hand, view in enumerate(row) if view is not None}))
    return not plainly_right(task, [word for word in words if word is not None], said)


def brought_by(task, many):
    """All words of a task that so many hands can bring."""
    return [words for words in product([None, *task.words], repeat=many) if any(word is not None for word in words)]


class Making(Case):
    def test_properties(self):
        tabled = Tabled(2, 1, MINE + ITS)
        self.same([tabled.many, tabled.rounds, tabled.table, tabled.boxes], [2, 1, MINE + ITS, 0])
        tabled = Tabled(many=3, rounds=0, table=())
        self.same([tabled.many, tabled.rounds, tabled.table, tabled.boxes], [3, 0, (), 0])
        self.same(Tabled(1, 3, ((0, (((5,),),), 9),)).rounds, 3)

    def test_errors_in_sequence(self):
        for many in (0, 4, -1, True, None, "2", (2,), 2.0, [2], {}):
            self.refuses(BadMany, many, Tabled, many, None, None)
        for number in (4, -1, True, False, None, "1", (1,), 1.0, []):
            self.refuses(BadRounds, number, Tabled, 2, number, None)
        for value in some_values():
            if value != ():
                self.refuses(BadTable, value, Tabled, 2, 1, value)

    def test_tables_near_to_right_ones(self):
        right = ((0, (5, None), 7), (0, (5, 6), 8), (1, (None, 6), 9))
        self.same(Tabled(2, 1, right).table, right)
        for wrong in (list(right), right[::-1], right + right[2:], right[:1] + right, (right[1], right[0], right[2]),
                      right + ((1, (None, 6), 10),), ((0, (5, None), 7), (0, (5, None), 8)),
                      ((1, (5, None), 7),), ((0, (None, 6), 7),), ((2, (5, None), 7),), ((-1, (5, None), 7),), ((True, (5, 6), 7),),
                      ((False, (5, 6), 7),), ((0, (True, 6), 7),), ((0, (5, 6), True),), ((0, (5, 6), None),), ((0, (5, 6), 100),),
                      ((0, (5, 100), 7),), ((0, (5, -1), 7),), ((0, (5, 6, None), 7),), ((0, (5,), 7),), ((0, [5, 6], 7),),
                      ([0, (5, 6), 7],), ((0, (5, 6)),), ((0, (5, 6), 7, 8),), ((0, 5, 7),), ((0, ((5, None), None), 7),),
                      ((0, None, 7),), ((0, (5, (6,)), 7),), (None,), ((),), ("0",), ((0, "56", 7),)):
            self.refuses(BadTable, wrong, Tabled, 2, 1, wrong)
        self.refuses(BadTable, right, Tabled, 2, 0, right)
        self.refuses(BadTable, right, Tabled, 2, 2, right)
        self.refuses(BadTable, right, Tabled, 3, 1, right)
        for entry in ((0, ((5, None), None), 7), (0, ((5, 6), (None, 6)), 7), (0, ((5, 6), (5, 6)), 7), (1, (None, (None, 6)), 7)):
            self.same(Tabled(2, 2, (entry,)).table, (entry,))
        for entry in ((0, ((None, 6), None), 7), (0, ((5, 6), (5, None)), 7), (0, ((5, 6), 6), 7), (0, (5, (5, 6)), 7),
                      (1, ((5, None), None), 7), (0, ((5, 6), (None, True)), 7)):
            self.refuses(BadTable, (entry,), Tabled, 2, 2, (entry,))

    def test_none_stands_ahead_of_words_and_words_ahead_of_greater_ones(self):
        entries = ((0, (0, None, None), 5), (0, (0, None, 2), 5), (0, (0, 0, None), 5), (0, (0, 10, 0), 5), (0, (2, 9, 9), 5),
                   (0, (10, None, None), 5), (1, (None, 0, None), 5), (2, (None, None, 0), 5))
        self.same(Tabled(3, 1, entries).table, entries)
        for at in range(len(entries) - 1):
            turned = entries[:at] + (entries[at + 1], entries[at]) + entries[at + 2:]
            self.refuses(BadTable, turned, Tabled, 3, 1, turned)

    def test_equality(self):
        one = Tabled(2, 1, MINE)
        self.equal(one, Tabled(2, 1, tuple(list(MINE))))
        for other in (Tabled(2, 1, MINE[1:]), Tabled(2, 1, MINE + ITS), Tabled(2, 1, ()), Played(one, 2), Program(PAIR)):
            self.unequal(one, other)
        self.unequal(Tabled(2, 1, ()), Tabled(2, 2, ()))
        self.unequal(Tabled(2, 1, ()), Tabled(3, 1, ()))
        for value in some_values() + [(2, 1, MINE), MINE]:
            self.unequal(one, value)
        self.no_operators(one)


class Playing(Case):
    def test_no_rounds(self):
        house = House(Tabled(2, 0, ((0, 4, 7), (1, 5, 8))), (4, 4))
        self.same([house.next(0), house.next(1)], [("say", 7), ("say", 0)])
        self.same([house.weave((1, 0, 0)), house.said], [((1, "say", 0), (0, "say", 7)), (7, 0)])
        self.same(House(Tabled(1, 0, ()), (None,)).next(0), None)

    def test_what_is_written_and_seen(self):
        house = House(Tabled(2, 2, ((0, ((5, None), (5, 6)), 33), (1, ((5, None), (5, 6)), 44))), (5, 6))
        self.same([house.step(0), house.step(0), house.next(0)], [(0, "write", (5,)), (0, "look", ((5,), None)), ("write", (5, (5, None)))])
        self.same([house.step(1), house.step(1), house.step(1)],
                  [(1, "write", (6,)), (1, "look", ((5,), (6,))), (1, "write", (6, (5, 6)))])
        self.same([house.step(0), house.step(0), house.next(0)],
                  [(0, "write", (5, (5, None))), (0, "look", ((5, (5, None)), (6, (5, 6)))), ("say", 33)])
        self.same([house.step(0), house.step(1), house.next(1), house.step(1)],
                  [(0, "say", 33), (1, "look", ((5, (5, None)), (6, (5, 6)))), ("say", 44), (1, "say", 44)])
        self.refuses(Done, 0, house.step, 0)

    def test_whoever_is_further_shows_what_it_wrote_before(self):
        house = House(Tabled(2, 2, ((1, ((5, None), (5, 6)), 9),)), (5, 6))
        house.weave((0, 0, 0, 0))
        # Hand 0 is through with both rounds; hand 1 sees in each round what was written in it.
        self.same(house.weave((1, 1, 1, 1))[2], (1, "write", (6, (5, 6))))
        self.same([house.step(1), house.said], [(1, "say", 9), (None, 9)])

    def test_errors(self):
        house = House(Tabled(2, 1, MINE + ITS), (0, 3))
        self.refuses(BadHand, 2, house.next, 2)
        self.refuses(BadWeaving, (0, 2), house.weave, (0, 2))
        self.refuses(BadWords, (0,), House, house.program, (0,))
        self.refuses(BadWords, (0, 3, 3), House, house.program, (0, 3, 3))

    def test_against_the_plainest_telling(self):
        for seed in range(120):
            any_of = random.Random(seed)
            many, number = any_of.randint(1, 3), any_of.randint(0, 2 + seed % 2)
            words = any_of.sample(range(10), any_of.randint(1, 2))
            table = some_table(any_of, many, min(number, 2), words) if number < 3 else ()
            program, plain = Tabled(many, number, table), PlainTabled(many, number, table)
            players = any_of.choice([0, 0, 1, 2, 3])
            if players:
                program, plain = Played(program, players), PlainPlayed(plain, players)
            brought = tuple([any_of.choice([None, *words]) if any_of.random() < 0.2 else any_of.choice(words)
                             for _ in range(program.many)])
            house, beside = House(program, brought), PlainHouse(plain, brought)
            hand = 0
            for _ in range(120 if players else 30):
                hand = any_of.randrange(program.many) if any_of.random() < 0.5 else hand
                self.same(house.next(hand), beside.next(hand))
                if house.next(hand) is not None:
                    self.same(house.step(hand), beside.step(hand))
                    house = house.copy() if any_of.random() < 0.2 else house
            self.same([house.said, house.boards], [tuple(beside.said), tuple(beside.boards)])
            self.same(judged(program, brought, house.run), ("run",))

    def test_told(self):
        for seed in range(30):
            any_of = random.Random(seed)
            inner = Tabled(2, any_of.randint(0, 2), ())
            program = Played(inner, any_of.randint(1, 3))
            house = House(program, tuple([any_of.choice((4, 7)) for _ in range(program.many)]))
            for _ in range(60):
                player = any_of.randrange(program.many)
                if any_of.random() < 0.05 and house.next(player) is not None:
                    forget(house, player)
                house.weave((player,) * any_of.randint(1, 3))
            words, paper = told(house)
            steps = tuple([row[0] for row in paper])
            self.same([judged(inner, words, steps), shows_told(house, (words, paper)), run_in(run_text(steps))], [("run",), True, steps])
            self.same([judged(program, house.words, house.run), run_in(run_text(house.run)) == house.run], [("run",), True])

    def test_reads(self):
        for seed in range(30):
            any_of = random.Random(seed)
            table = some_table(any_of, 2, 1, (4, 7))
            reads = Reads(Tabled(2, 1, table), (any_of.choice((4, 7)), any_of.choice((4, 7, None))))
            reads.weave(tuple([any_of.randrange(2) for _ in range(40)]))
            plain = [span for span in spans(reads) if span[1] == "write"]
            self.same([span[2] for span in plain], [(reads.words[span[0]],) for span in plain])
            self.same([shows_plain_run(reads, plain_run(reads)), reads.copy() == reads], [True, True])

    def test_each_row_comes_and_no_other(self):
        # A table that tells each view by a word of its own.
        for many, number in ((1, 1), (1, 3), (2, 0), (2, 1), (2, 2), (3, 0), (3, 1)):
            for words in product([None, 5, 6], repeat=many):
                if all(word is None for word in words) or many == 3 and (words.count(6) > 1 or None in words and words[0] != 5):
                    continue
                seen = sorted({(hand, view) for row in rows_of(many, number, words) for hand, view in enumerate(row)
                               if view is not None}, key=value_key)
                tabled = Tabled(many, number, tuple([(*key, at + 1) for at, key in enumerate(seen)]))
                rows = set()
                for said in self.all_said(House(tabled, words), set()):
                    rows.add(tuple([None if word is None else seen[word - 1][1] for word in said]))
                self.same(views(many, number, words), tuple(sorted(rows, key=value_key)), words)

    def all_said(self, house, known):
        """All that is said in the end, in some weaving."""
        left = [hand for hand in range(house.program.many) if house.next(hand) is not None]
        if not left:
            return {house.said}
        found = set()
        for hand in left:
            other = house.copy()
            other.step(hand)
            place = (other.boards, tuple([tuple([step for step in other.run if step[0] == at]) for at in range(other.program.many)]))
            if place not in known:
                known.add(place)
                found |= self.all_said(other, known)
        return found


class Views(Case):
    def test_one_round(self):
        self.same(views(1, 1, (5,)), (((5,),),))
        self.same(views(2, 1, (5, 6)), (((5, None), (5, 6)), ((5, 6), (None, 6)), ((5, 6), (5, 6))))
        self.same(views(many=2, rounds=1, words=(None, 6)), ((None, (None, 6)),))
        self.same(views(3, 1, (5, None, 6)),
                  (((5, None, None), None, (5, None, 6)), ((5, None, 6), None, (None, None, 6)), ((5, None, 6), None, (5, None, 6))))

    def test_how_many(self):
        for number in range(4):
            self.same([len(views(1, number, (1,))), len(views(2, number, (1, 1))), len(views(3, number, (1, 1, None)))],
                      [1, 3 ** number, 3 ** number])
            self.same(len(set(views(3, number, (1, 1, 1)))), 19 ** number)
        self.same([views(3, 0, (1, None, 2)), views(3, 3, (None, None, 4))],
                  [((1, None, 2),), ((None, None, (None, None, (None, None, (None, None, 4)))),)])

    def test_against_another_reckoning(self):
        for many, number in product((1, 2, 3), (0, 1, 2)):
            for words in product((None, 3, 10), repeat=many):
                if any(word is not None for word in words):
                    self.same(views(many, number, words), tuple(sorted(rows_of(many, number, words), key=value_key)))

    def test_errors_in_sequence(self):
        for many in (0, 4, True, None, "2"):
            self.refuses(BadMany, many, views, many, None, None)
        for number in (4, -1, True, False, None):
            self.refuses(BadRounds, number, views, 2, number, None)
        for words in [value for value in some_values() if value not in ((1, 1), (2, 1))] + [(1, 2, 3), (None, None), (1, True), (1, 100), [1, 2], (1, -1), (1, "2"), ((1,), 2)]:
            self.refuses(BadWords, words, views, 2, 1, words)
        self.refuses(BadWords, (None,), views, 1, 0, (None,))


class Wrong(Case):
    def test_against_all_rows(self):
        found = []
        for seed in range(150):
            any_of = random.Random(seed)
            task = pairs_task(seed, 2, 4)
            many = any_of.choice((1, 2, 2, 3))
            number = any_of.randint(0, 2 if many < 3 else 1)
            right = decided(task, many, number) if many > 1 else ("none",)
            tabled = right[1] if right != ("none",) else Tabled(many, number, some_table(any_of, many, number, task.words, 1))
            if right != ("none",) and seed % 2 and tabled.table:
                at = any_of.randrange(len(tabled.table))
                tabled = Tabled(many, number, tabled.table[:at] + tabled.table[at + 1:])
            wrong = {(words, row) for words in brought_by(task, many) for row in rows_of(many, number, words)
                     if is_wrong(task, tabled, words, row)}
            value = wrong_row(task, tabled)
            found.append(value is None)
            self.same(value is None, not wrong)
            self.assertTrue(value is None or value in wrong)
            self.same([shows_wrong_row(task, tabled, value), shows_wrong_row(task=task, tabled=tabled, value=wrong_row(task=task, tabled=tabled))],
                      [True, True])
            self.same(shows_wrong_row(task, tabled, None), not wrong)
            for other in sampled(any_of, bent(value), 40) + sampled(any_of, sorted(wrong, key=str), 10):
                same_kind = [one for one in wrong if repr(one) == repr(other)]
                self.same(shows_wrong_row(task, tabled, other), bool(same_kind) or other is None and not wrong, other)
        self.assertGreater(min(found.count(True), found.count(False)), 40)

    def test_tables_near_to_right_ones(self):
        task, walk = Task(NEAR), Tabled(2, 1, MINE + ITS)
        self.same(wrong_row(task, walk), None)
        for at in range(len(walk.table)):
            entry = walk.table[at]
            for said in (None, 0, 1, 2, 3, 9):
                table = walk.table[:at] + (() if said is None else (entry[:2] + (said,),)) + walk.table[at + 1:]
                near = Tabled(2, 1, table)
                wrong = [(words, row) for words in brought_by(task, 2) for row in rows_of(2, 1, words)
                         if is_wrong(task, near, words, row)]
                self.same(wrong_row(task, near) is None, not wrong)
        for value in some_values():
            self.same(shows_wrong_row(task, walk, value), value is None)

    def test_values_near_to_wrong_rows(self):
        task = Task(NEAR)
        worse = Tabled(2, 1, MINE + ITS[:-2])
        right = ((3, 3), ((3, 3), (3, 3)))
        self.same(shows_wrong_row(task, worse, right), True)
        # Views that do not come together, words that are not of the task, hands that do not bring them.
        for value in (((3, 3), ((3, None), (None, 3))), ((3, 9), ((3, 9), (3, 9))), ((None, 3), ((3, 3), (3, 3))), ((None, None), (None, None)),
                      ((3, 3), ((3, 3), None)), ((3, 0), ((3, 3), (3, 3))), ((3, 3), ((3, 3), (3, 3)), ()), ((3, 3),), [right[0], right[1]],
                      ([3, 3], right[1]), ((3, 3), ([3, 3], (3, 3))), ((3,), ((3, 3),)), ((3, 3), None), (None, right[1]), right[1],
                      ((3, 3.0), right[1]), ((3, 3), ((3, 3), (3, 3.0))), None):
            self.same(shows_wrong_row(task, worse, value), False, value)
        self.same(shows_wrong_row(Task("0 : 0\n1 : 1"), Tabled(2, 0, ((0, 1, 1),)), ((None, 1), (None, 1))), True)
        self.same(shows_wrong_row(Task("0 : 0\n1 : 1"), Tabled(2, 0, ((0, 1, 1),)), ((None, True), (None, 1))), False)
        self.same(shows_wrong_row(Task("0 : 0\n1 : 1"), Tabled(2, 0, ((0, 1, 1),)), ((None, 1), (None, True))), False)

    def test_words_that_never_come_are_seen_by_nobody(self):
        task = Task("0 : 0\n1 : 1\n0 1 : 0 1")
        # Wrong only if hand 1 is alone.
        tabled = Tabled(2, 0, ((0, 0, 0), (0, 1, 1), (1, 0, 0), (1, 1, 0)))
        self.same(sorted([words for words in brought_by(task, 2) if is_wrong(task, tabled, words, words)], key=str), [(1, 1), (None, 1)])
        self.assertIn(wrong_row(task, tabled), [((1, 1), (1, 1)), ((None, 1), (None, 1))])

    def test_no_program(self):
        for value in some_values() + [Tabled, MINE]:
            if not isinstance(value, Tabled):
                self.refuses(NoProgram, value, wrong_row, Task(NEAR), value)
                self.refuses(NoProgram, value, shows_wrong_row, Task(NEAR), value, None)
                self.refuses(NoProgram, value, shows_wrong_row, Task(NEAR), value, "none")

    def test_too_many(self):
        def task(count):
            return Task("\n".join([f"{word} : 0" for word in range(count)]))

        # 27 times 361 rows, and 64 times 361; 343 times 19, which six words never pass; 6859 times 8.
        for many, number, count, let in ((3, 2, 2, True), (3, 2, 3, False), (3, 1, 6, True), (3, 3, 1, False), (3, 0, 6, True),
                                         (2, 3, 6, True), (1, 3, 6, True), (3, 2, 1, True)):
            tabled = Tabled(many, number, ())
            if let:
                self.same([wrong_row(task(count), tabled), shows_wrong_row(task(count), tabled, None)], [None, True])
            else:
                self.refuses(TooMany, 20000, wrong_row, task(count), tabled)
                self.refuses(TooMany, 20000, shows_wrong_row, task(count), tabled, None)
                self.refuses(TooMany, 20000, shows_wrong_row, task(count), tabled, "none")


class Decided(Case):
    def test_two_hands_and_rounds(self):
        kinds = []
        for seed in range(120):
            task = pairs_task(seed, 4, 5)
            least = rounds(task)
            for number in range(3):
                found = decided(task, 2, number)
                kinds.append(found[0])
                self.same(found[0], "table" if least is not None and least <= number else "none", task.text)
                self.same([shows_decided(task, 2, number, found), shows_decided(task, 2, number, ("none",))], [True, found[0] == "none"])
                if found[0] == "table":
                    self.same([found[1].many, found[1].rounds, wrong_row(task, found[1])], [2, number, None])
        self.assertGreater(min(kinds.count("table"), kinds.count("none")), 40)

    def test_three_hands(self):
        for text, wanted in ((AGREE, ["none", "none"]), (WALL, ["none", "none"]), (NEAR, ["none", "none"]),
                             ("0 : 0\n1 : 1\n2 : 2\n0 1 2 : 0 1 2", ["none", "none"]),
                             ("0 : 0\n1 : 1\n2 : 2\n0 1 : 0 1\n0 2 : 0 2\n1 2 : 1 2\n0 1 2 : 0 1 2", ["table", "table"]),
                             ("4 : 7", ["table", "table"]), ("4 : 7 | 8\n5 : 8 | 9", ["table", "table"])):
            found = [decided(Task(text), 3, number) for number in (0, 1)]
            self.same([one[0] for one in found], wanted, text)
            for number, one in enumerate(found):
                self.same(shows_decided(Task(text), 3, number, one), True)
                self.same(shows_decided(Task(text), 3, number, ("none",)), one == ("none",))
                if one[0] == "table":
                    self.runs(Task(text), one[1])

    def runs(self, task, tabled):
        """Under weavings, whoever comes or stops, what is said is right."""
        any_of = random.Random(5)
        for _ in range(60):
            house = House(tabled, tuple([any_of.choice([None, *task.words]) for _ in range(3)]))
            for _ in range(any_of.randint(1, 20)):
                house.weave((any_of.randrange(3),))
                self.same(judged_house(task, house), None)

    def test_three_hands_against_trying_out(self):
        kinds = []
        for seed in range(60):
            any_of = random.Random(seed)
            one, other = any_of.sample(["0", "1", "2", "0 | 1", "1 | 2", "0 1"], 2)
            ends = any_of.sample(["0 1", "1 2", "0 2", "0 1 2", "1"], any_of.randint(1, 2))
            task, number = Task(f"4 : {one}\n5 : {other}\n4 5 : {' | '.join(ends)}"), any_of.randint(0, 1)
            found = decided(task, 3, number)
            kinds.append(found[0])
            self.same(found[0] == "table", self.tried_out(task, 3, number), task.text)
            if found[0] == "table":
                self.same([wrong_row(task, found[1]), decided(task, 2, number)[0]], [None, "table"])
        self.assertGreater(min(kinds.count("table"), kinds.count("none")), 5)

    def tried_out(self, task, many, number):
        """Whether some table is right, by saying word for word until a row is wrong."""
        rows = [(words, [(hand, view) for hand, view in enumerate(row) if view is not None])
                for words in brought_by(task, many) for row in rows_of(many, number, words)]
        keys = []
        for key in [key for _, row in sorted(rows, key=lambda row: len(row[1])) for key in row]:
            if key not in keys:
                keys.append(key)
        meeting = {key: [row for row in rows if key in row[1]] for key in keys}
        said = {}

        def go_on(at):
            if at == len(keys):
                return True
            for word in task.spoken:
                said[keys[at]] = word
                if all(plainly_right(task, [one for one in words if one is not None], [said[key] for key in row if key in said])
                       for words, row in meeting[keys[at]]) and go_on(at + 1):
                    return True
                del said[keys[at]]
            return False

        return go_on(0)

    def test_three_words(self):
        # Between each two words leads a walk of one step over a fourth one.
        lines = "0 : 0\n1 : 1\n2 : 2\n0 1 : 0 3 | 1 3\n0 2 : 0 3 | 2 3\n1 2 : 1 3 | 2 3"
        self.same([decided(Task(lines), 3, number)[0] for number in (0, 1)], ["none", "table"])
        self.same([decided(Task(lines.replace("1 2 : 1 3 | 2 3", "1 2 : 1 4 | 2 4")), 3, number)[0] for number in (0, 1)],
                  ["none", "none"])

    def test_tables_that_are_hard_to_find(self):
        for text in ("0 : 0 1 5 | 0 2 7 | 2 4 6 | 1 5\n1 : 3 4 7 | 2 5 6 | 5 7 | 3 7\n2 : 4 | 1 | 4 5 6\n1 2 : 7 | 2 3 4 | 0 1 4 6 | 4 6 7 | "
                     "2 3 5 6 | 2 7 | 3 5 | 1 6 7 | 5 6 | 3 7 | 2 3 4 | 3 7 | 3 4 | 1\n0 1 2 : 2 4 7 | 0 1 | 1 7 | 1 2 3 | 6 | 3 5 6 | 3 4 5 6 | "
                     "6 | 0 5 | 3 5 | 0 2 3 7 | 1 5 7",
                     "0 : 5 7 | 2 5 6 | 6\n1 : 0 3 5 | 0 1 2 3 | 1 5 | 4 7 | 0 2 | 7\n2 : 3 6 | 4 6\n0 2 : 6 | 0 2 | 2 7 | 5 6 | 6 7 | 4 5 7 | "
                     "3 | 6 7 | 4\n1 2 : 0 1 5 | 2 5 7 | 0 3 6 | 6 | 0 1 4 7 | 2 3 5 | 1 | 1 2 3 | 4 7 | 0 1 2 | 4 5 | 0 4 | 0 | 0 2 | 1 4 | 4 5",
                     "0 : 2 6 | 7 | 4 6 | 4 5 | 3 | 3 5 | 2\n1 : 0 1 6 7 | 1 3\n2 : 0 2 4 | 1 3 4 | 5\n0 2 : 2 3 4 5 6 7 | 0 | 5 7 | 4 | 1 4 | 2"):
            found = decided(Task(text), 3, 1)
            self.same([found[0], wrong_row(Task(text), found[1])], ["table", None])

    def test_rings_that_no_table_fills(self):
        # Each two words may be said together along a part of a ring, which nothing else fills.
        for alone, pairs in ((("0", "3", "6"), ((0, 1, 2, 3), (3, 4, 5, 6), (6, 7, 0))), (("0 3", "1 4", "2 5"), ((0, 1, 3, 4), (1, 2, 4, 5), (0, 2, 3, 5)))):
            walk = [[tuple(sorted(pair)) for pair in (zip(part, part[1:]) if len(alone[0]) == 1 else combinations(part, 2))] for part in pairs]
            lots = ("0 1", "1 2", "0 2")
            lines = [f"{word} : {end}" for word, end in enumerate(alone)]
            lines += [f"{lot} : " + " | ".join([f"{one} {other}" for one, other in walk[at]]) for at, lot in enumerate(lots)]
            task = Task("\n".join(lines))
            self.same([decided(task, 3, 1), rounds(task) in (0, 1)], [("none",), True])

    def test_errors_in_sequence(self):
        four = Task("\n".join([f"{word} : 0" for word in range(4)]))
        for many in (0, 1, 4, True, None, "2", (2,)):
            self.refuses(BadMany, many, decided, four, many, None)
            self.refuses(BadMany, many, shows_decided, four, many, None, None)
        for number in (-1, 3, True, False, None, "1"):
            self.refuses(BadRounds, number, decided, four, 2, number)
            self.refuses(BadRounds, number, shows_decided, four, 2, number, None)
        for number in (-1, 2, 3, True, None):
            self.refuses(BadRounds, number, decided, four, 3, number)
        self.refuses(TooMany, 3, decided, four, 3, 1)
        self.refuses(TooMany, 3, decided, task=four, many=3, rounds=0)
        self.refuses(TooMany, 3, shows_decided, four, 3, 1, ("none",))
        self.same(decided(four, 2, 0)[0], "table")

    def test_what_is_shown(self):
        task = Task(NEAR)
        found = decided(task, 2, 1)
        self.same(shows_decided(task=task, many=2, rounds=1, value=("table", Tabled(2, 1, MINE + ITS))), True)
        for value in (found[1], ("table",), ("none",), ["table", found[1]], ("table", found[1], None), ("none", found[1]), ("none", None),
                      ("table", Tabled(2, 1, MINE)), ("table", Tabled(2, 0, ())), ("table", Tabled(3, 1, ())), ("table", MINE),
                      *decided(task, 2, 2)[:1], ("table", decided(task, 2, 2)[1]), *some_values()):
            self.same(shows_decided(task, 2, 1, value), False, value)
        self.same([shows_decided(task, 2, 0, value) for value in (("none",), ["none"], ("none", None), None, "none", ("table",))],
                  [True, False, False, False, False, False])
        # Tables that are right, for another number of hands or of rounds.
        plain = Task("4 : 7")
        self.same([shows_decided(plain, 2, 0, decided(plain, many, number)) for many, number in ((2, 0), (3, 0), (2, 1))], [True, False, False])
        apart = Task(APART)
        self.same([decided(apart, 2, 0)[0], shows_decided(apart, 2, 0, ("none",))], ["table", False])


class Names(Case):
    def test_words_called_otherwise(self):
        for seed in range(40):
            task, any_of = pairs_task(seed, 3, 4), random.Random(seed)
            words = sorted(set(task.words) | set(task.spoken))
            other = renamed(task, tuple(zip(words, any_of.sample(range(100), len(words)))))
            for many, number in ((2, 0), (2, 1), (3, 0), (3, 1)):
                self.same(decided(other, many, number)[0], decided(task, many, number)[0])

    def test_hands_with_other_numbers(self):
        def turned(view, deep):
            return view if view is None or deep == 0 else tuple([turned(thing, deep - 1) for thing in view[::-1]])

        for number in range(3):
            rows = {tuple([turned(view, number) for view in row[::-1]]) for row in views(3, number, (4, 5, 6))}
            self.same(rows == set(views(3, number, (6, 5, 4))), True)
        for seed in range(30):
            any_of = random.Random(seed)
            table = some_table(any_of, 2, 1, (0, 3))
            other = tuple(sorted([(1 - hand, turned(view, 1), said) for hand, view, said in table], key=value_key))
            task = pairs_task(seed, 2, 4)
            self.same(wrong_row(task, Tabled(2, 1, table)) is None, wrong_row(task, Tabled(2, 1, other)) is None)
            house, beside = House(Tabled(2, 1, table), (0, 3)), House(Tabled(2, 1, other), (3, 0))
            weaving = tuple([any_of.randrange(2) for _ in range(8)])
            house.weave(weaving)
            beside.weave(tuple([1 - hand for hand in weaving]))
            self.same(house.said, beside.said[::-1])


if __name__ == "__main__":
    unittest.main()
