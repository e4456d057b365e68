"""Point 12: two alone; and guarantees (f) and (j) of point 3, of tasks for two."""

import random
import unittest

from fewplaymany.chains import chosen, made, plan, rounds, shows_chosen, shows_made, shows_plan
from fewplaymany.errors import NotDone
from fewplaymany.houses import House
from fewplaymany.tables import decided, Tabled, wrong_row
from fewplaymany.tasks import judged_house, renamed, Task
from helpers import bent, Case, some_values
from plain_chains import are_joined, can_be_joined, choices, distances, is_chosen, is_plan, least_rounds, right_alone, some_tree
from test_tasks import some_task, text_of

NEAR = "0 : 0\n3 : 3\n0 3 : 0 1 | 1 2 | 2 3"
AGREE = "0 : 0\n1 : 1\n0 1 : 0 | 1"
APART = "0 : 0 2 | 1\n1 : 1 2\n0 1 : 0 1"


def walk_task(length):
    """A task of two words, between which a walk of so many steps leads."""
    if length == 0:
        return Task("0 : 5\n9 : 5")
    ends = " | ".join([f"{at} {at + 1}" for at in range(length)])
    return Task(f"90 : 0\n91 : {length}\n90 91 : {ends}")


def pairs_task(seed, most=4, spoken=5):
    """A Task whose lines of two words matter."""
    any_of = random.Random(seed)
    words = sorted(any_of.sample(range(10), any_of.randint(1, most)))
    said = sorted(any_of.sample(range(10), any_of.randint(1, spoken)))

    def ends(least, count):
        return " | ".join([text_of(sorted(any_of.sample(said, min(len(said), any_of.randint(least, 2))))) for _ in range(count)])

    lines = [f"{word} : {ends(1, any_of.randint(1, 2))}" for word in words]
    lines += [f"{one} {other} : {ends(2, any_of.randint(1, 2))}" for one in words for other in words
              if one < other and any_of.random() < 0.8]
    any_of.shuffle(lines)
    return Task("\n".join(lines[:20]))


def sampled(any_of, values, count):
    """So many of these values at most."""
    values = list(values)
    return values if len(values) <= count else any_of.sample(values, count)


class Chosen(Case):
    def test_one_word(self):
        self.same(chosen(Task("5 : 7")), ("words", ((5, 7),)))
        self.same(chosen(task=Task("5 : 7")), ("words", ((5, 7),)))
        task = Task("5 : 7 | 3")
        self.same([shows_chosen(task, ("words", ((5, said),))) for said in (3, 7, 5)], [True, True, False])
        self.same([rounds(task), rounds(Task("0 : 0"))], [0, 0])

    def test_a_line_of_two_words_alone_makes_the_chain(self):
        self.same(chosen(Task(NEAR)), ("words", ((0, 0), (3, 3))))
        self.same(chosen(Task("0 : 0\n3 : 3"))[0], "none")
        # Without the middle of the walk there is none.
        self.same(chosen(Task("0 : 0\n3 : 3\n0 3 : 0 1 | 2 3"))[0], "none")

    def test_chains_of_one_word(self):
        task = Task("0 : 5\n1 : 5 6\n2 : 5")
        self.same(chosen(task), ("words", ((0, 5), (1, 5), (2, 5))))
        self.same(shows_chosen(task, ("words", ((0, 5), (1, 6), (2, 5)))), True)

    def test_longer_lines_do_not_join_two(self):
        task = Task("0 : 0\n1 : 1\n2 : 2\n0 1 2 : 0 1 2")
        self.same(chosen(task)[0], "none")
        self.same(chosen(Task(task.text + "\n0 1 : 0 1\n0 2 : 0 2\n1 2 : 1 2"))[0], "words")

    def test_an_end_of_three_joins_each_two_of_it(self):
        self.same(chosen(Task("0 : 0\n1 : 1\n0 1 : 0 1 2"))[0], "words")

    def test_words_to_be_chosen_that_do_not_come_first(self):
        # For 0 to say 4 leads nowhere, and for 1 just 7 is joined with what both others can say.
        task = Task("0 : 4 | 5\n1 : 5 | 6 | 7\n2 : 6 | 8\n0 1 : 5 7\n1 2 : 6 7\n0 2 : 5 6")
        pairs = dict(chosen(task)[1])
        self.assertTrue(are_joined(task, pairs))
        self.same(shows_chosen(task, ("words", ((0, 4), (1, 5), (2, 6)))), False)

    def test_against_trying_out(self):
        kinds = []
        for seed in range(250):
            task = pairs_task(seed, 3, 6) if seed % 3 else some_task(seed)
            if len(choices(task)) > 400:
                continue
            found = chosen(task)
            kinds.append(found[0])
            self.same(found[0], "words" if can_be_joined(task) else "none", task.text)
            self.assertTrue(is_chosen(task, found), task.text)
            self.same([shows_chosen(task, found), shows_chosen(task=task, value=chosen(task))], [True, True])
            self.same(found, chosen(Task(task.text)))
        self.assertGreater(min(kinds.count("words"), kinds.count("none")), 30)

    def test_each_two_can_be_joined_and_not_all_three(self):
        lines = "0 : 0 | 1\n1 : 2 | 3\n2 : 4 | 5\n0 1 : 0 2 | 1 3\n1 2 : 2 4 | 3 5\n0 2 : "
        task = Task(lines + "0 5 | 1 4")
        found = chosen(task)
        self.same([found[0], shows_chosen(task, found), rounds(task)], ["none", True, None])
        self.same(shows_chosen(task, ("none", found[1][2][0][1])), False)
        self.same([chosen(Task(lines + "0 4 | 1 5"))[0], rounds(Task(lines + "0 4 | 1 5"))], ["words", 0])

    def test_six_words(self):
        lines = [f"{word} : 0 | 1 | 2 | 3 | 4 | 5 | 6 | 7" for word in range(6)]
        self.same(chosen(Task("\n".join(lines)))[0], "words")
        task = Task("\n".join([f"{word} : {word}" for word in range(6)] + ["0 1 : 0 1", "2 3 : 2 3", "4 5 : 4 5"]))
        found = chosen(task)
        self.same([found[0], shows_chosen(task, found), rounds(task)], ["none", True, None])

    def test_what_is_shown(self):
        any_of = random.Random(12)
        shown = []
        for seed in range(120):
            task = pairs_task(seed, 3, 4)
            near = [chosen(task)]
            if can_be_joined(task):
                near += [("words", tuple(sorted(choice.items()))) for choice in choices(task)]
            else:
                near += [("none", some_tree(any_of, task, {})) for _ in range(3)]
            for value in near + sampled(any_of, bent(near[-1]), 60):
                wanted = is_chosen(task, value)
                shown.append(wanted)
                self.same(shows_chosen(task, value), wanted, (task.text, value))
        self.assertGreater(min(shown.count(True), shown.count(False)), 300)

    def test_trees_near_to_right_ones(self):
        task = Task(AGREE)
        tree = ("word", 0, ((0, ("word", 1, ((1, ("pair", 0, 1)),))),))
        turned = ("word", 1, ((1, ("word", 0, ((0, ("pair", 0, 1)),))),))
        self.same([shows_chosen(task, ("none", value)) for value in (tree, turned)], [True, True])
        for value in (tree[2][0][1], ("pair", 0, 1), ("word", 0, ()), ("word", 0, ((0, ("pair", 0, 1)),)),
                      ("word", 0, ((0, ("word", 1, ((1, ("pair", 1, 0)),))),)), ("word", 0, ((0, ("word", 1, ())),)),
                      ("word", 0, ((0, ("word", 1, ((1, ("pair", 0, 1)),) * 2)),)), ("word", 0, ((0, ("word", 0, ((0, tree),))),)),
                      ("word", 2, ((2, tree),)), ("word", False, tree[2]), ("word", 0, [tree[2][0]]), list(tree),
                      ("word", 0, ((0, ("word", 1, ((1, ("pair", 0, 0)),))),)), ("word", 0, ((1, tree[2][0][1]),)), tree[:2], None):
            self.same(shows_chosen(task, ("none", value)), False, value)
        for value in some_values():
            self.same(shows_chosen(task, value), False)
            self.same(shows_chosen(Task(NEAR), value), False)

    def test_a_branch_out_or_twice(self):
        task = Task("0 : 0 | 2\n1 : 1\n0 1 : 0 | 1 | 2")
        pair = ("pair", 0, 1)
        branches = ((0, ("word", 1, ((1, pair),))), (2, ("word", 1, ((1, pair),))))
        self.same(shows_chosen(task, ("none", ("word", 0, branches))), True)
        for wrong in (branches[:1], branches[1:], branches[::-1], branches + branches[1:], branches + ((3, branches[0][1]),)):
            self.same(shows_chosen(task, ("none", ("word", 0, wrong))), False)
        joined = Task("0 : 0 | 2\n1 : 1\n0 1 : 0 | 1 2")
        self.same([shows_chosen(joined, ("none", ("word", 0, branches))), chosen(joined)], [False, ("words", ((0, 2), (1, 1)))])


class Rounds(Case):
    def test_walks_of_each_length(self):
        for length, wanted in ((0, 0), (1, 0), (2, 1), (3, 1), (4, 2), (5, 2), (6, 2), (7, 2)):
            task = walk_task(length)
            self.same([rounds(task), rounds(task=task), plan(task)[0], made(task).rounds], [wanted] * 4, length)
            self.assertTrue(is_plan(task, plan(task), wanted))

    def test_hands_that_choose_unlike_words(self):
        task = Task(APART)
        number, mine, its, _ = plan(task)
        self.same([rounds(task), number, dict(mine)[0] != dict(mine)[1] or dict(its)[0] != dict(its)[1]], [0, 0, True])
        # One choice for both hands needs a round: 3 and 4 are two steps apart, but 3 and 5, 5 and 4 are next to one another.
        task = Task("0 : 0 | 1\n1 : 2 | 3\n0 1 : 0 2 | 0 3 | 1 2 | 1 3\n2 : 4\n0 2 : 0 4 | 1 4\n1 2 : 2 4 | 3 4")
        self.same([rounds(task), shows_plan(task, plan(task))], [0, True])

    def test_the_same_word_brought_twice(self):
        # For each word alone both hands say something, which is to be right together, too.
        task = Task("0 : 0 | 1\n1 : 2 | 3\n0 1 : 0 2 | 1 2 | 1 3")
        self.same(rounds(task), least_rounds(task))

    def test_against_trying_out(self):
        numbers = []
        for seed in range(250):
            task = pairs_task(seed, 4, 5) if seed % 4 else some_task(seed)
            if len(choices(task)) > 300:
                continue
            numbers.append(least_rounds(task))
            self.same(rounds(task), numbers[-1], task.text)
        self.assertTrue(set(numbers) >= {None, 0, 1}, numbers)

    def test_longer_ways_round(self):
        # Rings of eight words, of which words brought are some steps apart.
        ring = " | ".join([text_of(sorted((at, (at + 1) % 8))) for at in range(8)])
        for step in (1, 2, 3, 4):
            task = Task(f"0 : 0\n1 : {step}\n0 1 : {ring}")
            self.same(rounds(task), least_rounds(task))


class Plans(Case):
    def test_plans_are_right(self):
        for seed in range(150):
            task = pairs_task(seed)
            number = least_rounds(task) if len(choices(task)) <= 300 else rounds(task)
            if number is None:
                continue
            found = plan(task)
            self.assertTrue(is_plan(task, found, number), task.text)
            self.same([shows_plan(task, found), shows_plan(task=task, value=plan(task=task))], [True, True])

    def test_what_is_shown(self):
        any_of, shown = random.Random(3), []
        for seed in range(60):
            task = pairs_task(seed, 3, 4)
            if not can_be_joined(task) or len(choices(task)) > 100:
                continue
            number = least_rounds(task)
            for value in sampled(any_of, bent(plan(task)), 60) + sampled(any_of, self.plans(task, number), 20):
                shown.append(is_plan(task, value, number))
                self.same(shows_plan(task, value), shown[-1], (task.text, value))
        self.assertGreater(min(shown.count(True), shown.count(False)), 100)

    def plans(self, task, number):
        """Plans of other choices, with shortest chains, some of which are too long."""
        for mine in choices(task)[:4]:
            for its in choices(task)[-4:]:
                walks = [((one, other), self.shortest(task, one, other, mine[one], its[other]))
                         for one in task.words for other in task.words]
                yield (number, tuple(sorted(mine.items())), tuple(sorted(its.items())), tuple(walks))

    def shortest(self, task, one, other, start, end):
        lot = tuple(sorted({one, other}))
        far = distances(task, lot, end)
        if start not in far:
            return (start, end)
        chain = [start]
        while chain[-1] != end:
            nearer = [word for word in right_alone(task, lot) if far.get(word) == far[chain[-1]] - 1
                      and chain[-1] in distances(task, lot, word) and distances(task, lot, word)[chain[-1]] == 1]
            chain.append(nearer[0])
        return tuple(chain)

    def test_bent_in_each_part(self):
        task = Task(NEAR)
        walks = (((0, 0), (0,)), ((0, 3), (0, 1, 2, 3)), ((3, 0), (3, 2, 1, 0)), ((3, 3), (3,)))
        pairs = ((0, 0), (3, 3))

        def shown(**part):
            whole = {"number": 1, "mine": pairs, "its": pairs, "walks": walks, **part}
            return shows_plan(task, (whole["number"], whole["mine"], whole["its"], whole["walks"]))

        self.same(shown(), True)
        for number in (0, 2, True, None, "1", -1):
            self.same(shown(number=number), False)
        for choice in ((), pairs[:1], pairs[::-1], ((0, 0), (3, 2)), ((0, 1), (3, 3)), ((False, 0), (3, 3)), list(pairs), None,
                       pairs + pairs, ((0, 0, 0), (3, 3))):
            self.same([shown(mine=choice), shown(its=choice)], [False, False], choice)
        # They may stand still, as long as they are not too long.
        for chain, wanted in (((0, 0, 0, 0), True), ((0, 0, 0, 0, 0), False), ((), False), ((0, False), False), ([0], False),
                              ((0, 1, 0), False), ((3,), False), (None, False), ((0, 3, 0), False)):
            self.same(shown(walks=(((0, 0), chain),) + walks[1:]), wanted, chain)
        for chain, wanted in (((0, 1, 2, 3), True), ((0, 2, 2, 3), False), ((0, 3), False), ((0, 1, 1, 2, 3), False), ((0, 1, 2), False),
                              ((1, 2, 3), False), ((3, 2, 1, 0), False), ((0, 1, 2, 3, 3), False)):
            self.same(shown(walks=walks[:1] + (((0, 3), chain),) + walks[2:]), wanted, chain)
        for rows in (walks[:3], walks[1:], walks[::-1], walks + walks[3:], list(walks), (), None, walks[:3] + (((3, 3.0), (3,)),),
                     walks[:3] + (((3,), (3,)),), walks[:3] + ([(3, 3), (3,)],)):
            self.same(shown(walks=rows), False, rows)
        for value in some_values():
            self.same(shows_plan(task, value), False)

    def test_how_long_chains_may_be(self):
        for length, most in ((1, 1), (2, 3), (7, 9)):
            task = walk_task(length)
            number, mine, its, walks = plan(task)
            row = [key for key, _ in walks].index((90, 91))
            for steps in range(length, most + 3):
                chain = (0,) * (steps - length) + tuple(range(length + 1))
                value = (number, mine, its, walks[:row] + (((90, 91), chain),) + walks[row + 1:])
                self.same(shows_plan(task, value), steps <= most, (length, steps))

    def test_not_done(self):
        for text in (AGREE, "0 : 0\n3 : 3", "1 : 1\n2 : 2\n3 : 3\n1 2 : 1 2"):
            task = Task(text)
            for call in (plan, made):
                with self.assertRaises(NotDone) as held:
                    call(task)
                self.assertIs(type(held.exception), NotDone)
                self.same(shows_chosen(task, ("none", held.exception.value)), True)
                self.same(held.exception.value, chosen(task)[1])
            # The TREE comes ahead of any look at a value.
            for value in some_values():
                self.assertRaises(NotDone, shows_plan, task, value)
                self.assertRaises(NotDone, shows_made, task, value)


class Made(Case):
    def test_tables_are_right(self):
        for seed in range(120):
            task = pairs_task(seed)
            if rounds(task) is None:
                continue
            tabled = made(task)
            self.same([type(tabled), tabled.many, tabled.rounds, wrong_row(task, tabled)], [Tabled, 2, rounds(task), None])
            self.same([shows_made(task, tabled), shows_made(task=task, value=made(task=task))], [True, True])
            self.runs(task, tabled, random.Random(seed))

    def runs(self, task, tabled, any_of):
        """Under weavings, whoever comes or stops, what is said is right."""
        for _ in range(12):
            words = tuple([any_of.choice([None, *task.words]) for _ in range(2)])
            house = House(tabled, words)
            for hand in any_of.choices((0, 1), k=any_of.randint(1, 16)):
                house.weave((hand,) * any_of.randint(1, 3))
                self.same(judged_house(task, house), None)

    def test_what_is_shown(self):
        task = Task(NEAR)
        tabled = made(task)
        for at in range(len(tabled.table)):
            out = Tabled(2, 1, tabled.table[:at] + tabled.table[at + 1:])
            self.same(shows_made(task, out), wrong_row(task, out) is None)
        # Entries for words that are not brought change nothing.
        more = Tabled(2, 1, tabled.table + ((1, (9, 9), 9),))
        self.same(shows_made(task, more), True)
        slow = Task("0 : 0\n3 : 3\n0 3 : 0 3")
        self.same([shows_made(slow, Tabled(2, 0, ((0, 0, 0), (0, 3, 3), (1, 0, 0), (1, 3, 3)))), shows_made(slow, tabled), rounds(slow)],
                  [True, False, 0])
        # Tables that are right, of more rounds or for more hands.
        plain = Task("4 : 7")
        self.same([shows_made(plain, decided(plain, many, number)[1]) for many, number in ((2, 0), (3, 0), (2, 1))], [True, False, False])
        for value in some_values() + [tabled.table, (tabled,), Tabled(1, 1, ()), Tabled(3, 1, ()), Tabled(2, 1, ()), Tabled(2, 2, ())]:
            self.same(shows_made(task, value), False)


class Names(Case):
    def test_words_called_otherwise(self):
        for seed in range(80):
            task = pairs_task(seed)
            any_of = random.Random(seed)
            words = sorted(set(task.words) | set(task.spoken))
            pairs = tuple(zip(words, any_of.sample(range(100), len(words))))
            other = renamed(task, pairs)
            self.same([chosen(other)[0], rounds(other)], [chosen(task)[0], rounds(task)])
            names = dict(pairs)
            if chosen(task)[0] == "words":
                value = tuple(sorted([(names[word], names[said]) for word, said in chosen(task)[1]]))
                self.same(shows_chosen(other, ("words", value)), True)
            lines = task.text.split("\n")
            any_of.shuffle(lines)
            mixed = Task("\n".join(lines))
            self.same([chosen(mixed)[0], rounds(mixed)], [chosen(task)[0], rounds(task)])
            self.same(shows_chosen(mixed, chosen(task)), True)


if __name__ == "__main__":
    unittest.main()
