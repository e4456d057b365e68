"""Point 7: looks at once, and rows of views; and guarantee (j) of point 3, of these."""

import random
import unittest
from itertools import permutations, product

from fewplaymany.errors import BadHand, BadMany, BadRow, BadWeaving, Done, NoRow
from fewplaymany.levels import (
    chain, every_row, is_at_once, Levels, number_of, row_at, shows_chain, shows_weaving_to, weaving_to,
)
from helpers import Case, NO_HANDS, some_values

NO_MANYS = (0, 6, -1, 100, True, False, None, "3", "", (3,), [3], {}, 3.0)

# What is none of these rows for three hands, in each way.
NO_ROWS = (
    None, 0, True, "", (), [], {}, (None, None, None), ((0,),), ((0,), (0, 1)), ((0,), (0, 1), (0, 1, 2), None), [(0,), None, None],
    ([0], None, None), ((0,), None, [2]), (0, None, None), (True, None, None), ("0", None, None), ((), None, None), ((0,), (), None),
    ((True, 0), None, None), ((False,), None, None), (None, (True,), None), (None, None, (0, True, 2)), ((0, 0), None, None),
    ((1, 0), None, None), (None, (1, 0), None), ((0, 3), None, None), ((0, 1, 2, 3), None, None), ((-1, 0), None, None),
    ((None, 0), None, None), (("0",), None, None), (((0,),), None, None), ((0,), None, None, None), (((0,), None, None),),
    # No hand of its own.
    ((1,), None, None), (None, (0,), None), (None, None, (0, 1)), ((0, 1, 2), (0, 2), None),
    # Two views of which neither holds the other.
    ((0,), (1,), None), ((0, 1), (1, 2), (2,)), ((0,), None, (1, 2)), ((0, 2), (0, 1), None), ((0, 1), None, (0, 2)),
    # Somebody stands in a view, whose own view does not lie within.
    ((0, 1), (0, 1, 2), (0, 1, 2)), ((0, 2), None, (0, 1, 2)), ((0, 1), (0, 1, 2), None),
)


def lots_and_none(many):
    """None and all lots of hands."""
    return [None] + [tuple([hand for hand in range(many) if bits >> hand & 1]) for bits in range(1, 2 ** many)]


def is_row_plainly(row):
    """Whether a tuple of lots and Nones is a row of views, told straight from the document."""
    views = [(hand, view) for hand, view in enumerate(row) if view is not None]
    if not views or not all(hand in view for hand, view in views):
        return False
    if not all(set(one) <= set(other) or set(other) <= set(one) for _, one in views for _, other in views):
        return False
    return all(set(view) <= set(seen) for hand, view in views for _, seen in views if hand in seen)


def rows_plainly(many):
    """All rows of views, told straight from the document."""
    return [row for row in product(lots_and_none(many), repeat=many) if is_row_plainly(row)]


def state(levels):
    """All that Levels tell of themselves."""
    return (levels.many, levels.levels, levels.views, levels.run, len(levels), [levels.next(hand) for hand in range(levels.many)])


def renamed(row, names):
    """A row of views, each hand called by its name."""
    found = [None] * len(row)
    for hand, view in enumerate(row):
        found[names[hand]] = None if view is None else tuple(sorted([names[other] for other in view]))
    return tuple(found)


class Coming(Case):
    def test_properties(self):
        for many in (1, 2, 3, 4, 5):
            levels = Levels(many=many)
            self.same(state(levels), (many, (None,) * many, (None,) * many, (), 0, [("write", many)] * many))

    def test_bad_many(self):
        for many in NO_MANYS:
            self.refuses(BadMany, many, Levels, many)
            for call in (is_at_once, weaving_to, row_at, number_of):
                self.refuses(BadMany, many, call, many, "no row")
            self.refuses(BadMany, many, every_row, many)
            self.refuses(BadMany, many, shows_weaving_to, many, "no row", None)
            self.refuses(BadMany, many, chain, many, "no row", "no row")
            self.refuses(BadMany, many, shows_chain, many, "no row", "no row", None)

    def test_one_hand(self):
        levels = Levels(1)
        self.same([levels.step(0), levels.next(0), levels.step(hand=0)], [(0, "write", 1), ("look",), (0, "look", (1,))])
        self.same([levels.views, levels.next(0), len(levels)], [((0,),), None, 2])
        self.refuses(Done, 0, levels.step, 0)

    def test_alone_among_many(self):
        for many in (2, 3, 4, 5):
            levels = Levels(many)
            steps = levels.weave((1,) * 20)
            self.same(len(steps), 2 * many)
            self.same([step[2] for step in steps if step[1] == "write"], list(range(many, 0, -1)))
            self.same([levels.views[1], levels.levels[1], levels.views[0]], [(1,), 1, None])
            self.refuses(Done, 1, levels.step, 1)
            self.same(levels.weave((1, 1)), ())

    def test_all_together(self):
        for many in (1, 2, 3, 4, 5):
            levels = Levels(many)
            levels.weave(tuple(range(many)) * 2)
            self.same(levels.views, (tuple(range(many)),) * many)
            self.same(levels.levels, (many,) * many)

    def test_hands_at_greater_levels_do_not_count(self):
        levels = Levels(3)
        levels.weave((0, 0, 0, 1, 2))
        # Hands 1 and 2 show 3, hand 0 shows 2: it finds itself alone.
        self.same(levels.step(0), (0, "look", (2, 3, 3)))
        self.same([levels.views, levels.next(0)], [(None, None, None), ("write", 1)])
        self.same([levels.step(1), levels.views[1]], [(1, "look", (2, 3, 3)), (0, 1, 2)])

    def test_errors(self):
        levels = Levels(3)
        levels.weave((0, 0, 1))
        before = state(levels)
        for value in (*NO_HANDS, 3):
            self.refuses(BadHand, value, levels.next, value)
            self.refuses(BadHand, value, levels.step, value)
        for value in (None, 0, [0], (3,), (True,), ("0",), (0,) * 3001, (0, 1, -1), "01", (None,)):
            self.refuses(BadWeaving, value, levels.weave, value)
        self.same(state(levels), before)
        self.same(levels.weave(weaving=()), ())
        self.same([levels.next(hand=0), len(levels.weave((0,) * 3000))], [("write", 2), 4])

    def test_copies_and_equality(self):
        for seed in range(40):
            any_of = random.Random(seed)
            many = any_of.randint(1, 5)
            levels = Levels(many)
            levels.weave(tuple([any_of.randrange(many) for _ in range(any_of.randint(0, 20))]))
            copy, before = levels.copy(), state(levels)
            self.equal(copy, levels)
            self.same(state(copy), before)
            steps = copy.weave(tuple(range(many)) * 10)
            self.same(state(levels), before)
            self.assertEqual(copy == levels, steps == ())
            self.same([levels.weave(tuple(range(many)) * 10), state(levels)], [steps, state(copy)])
        self.unequal(Levels(2), Levels(3))
        one, other = Levels(2), Levels(2)
        one.weave((0, 1))
        other.weave((1, 0))
        self.unequal(one, other)
        for value in some_values():
            self.unequal(Levels(2), value)
        self.no_operators(Levels(2))

    def test_against_the_plainest_telling(self):
        for seed in range(300):
            any_of = random.Random(seed)
            many = any_of.randint(1, 5)
            levels = Levels(many)
            shown, views = {}, {}
            dues = {hand: ("write", many) for hand in range(many)}
            coming = any_of.sample(range(many), any_of.randint(1, many))
            for _ in range(any_of.choice([5, 20, 60])):
                hand = any_of.choice(coming)
                self.same(levels.next(hand), dues[hand])
                if hand in views:
                    continue
                if dues[hand][0] == "write":
                    self.same(levels.step(hand), (hand, *dues[hand]))
                    shown[hand] = dues[hand][1]
                    dues[hand] = ("look",)
                    continue
                self.same(levels.step(hand), (hand, "look", tuple([shown.get(at) for at in range(many)])))
                seen = tuple([at for at in range(many) if shown.get(at, 9) <= shown[hand]])
                if len(seen) >= shown[hand]:
                    views[hand] = seen
                dues[hand] = None if hand in views else ("write", shown[hand] - 1)
                self.same(levels.levels, tuple([shown.get(at) for at in range(many)]))
                self.same(levels.views, tuple([views.get(at) for at in range(many)]))
            if views:
                self.assertTrue(is_at_once(many, levels.views))
                self.same(shows_weaving_to(many, levels.views, tuple([step[0] for step in levels.run])), True)

    def test_hands_by_other_numbers(self):
        for seed in range(60):
            any_of = random.Random(seed)
            many = any_of.randint(2, 5)
            names = any_of.sample(range(many), many)
            weaving = tuple([any_of.randrange(many) for _ in range(any_of.randint(0, 40))])
            one, other = Levels(many), Levels(many)
            one.weave(weaving)
            other.weave(tuple([names[hand] for hand in weaving]))
            self.same(other.views, renamed(one.views, names))
            self.same([other.levels[names[hand]] for hand in range(many)], list(one.levels))


class Rows(Case):
    def test_what_is_none(self):
        for row in NO_ROWS + tuple([value for value in some_values() if value != ((1,),)]):
            self.same(is_at_once(3, row), False, row)
        self.same(is_at_once(many=3, value=((0,), (0, 1), None)), True)

    def test_all_small_rows(self):
        for many in (1, 2, 3):
            for row in product(lots_and_none(many) + [()], repeat=many):
                self.same(is_at_once(many, row), is_row_plainly(row), row)

    def test_just_these_can_stand(self):
        """All views behind all weavings in which some hand got one are just the rows of views."""
        for many in (1, 2, 3):
            left, met, stand = [Levels(many)], set(), set()
            while left:
                levels = left.pop()
                for hand in range(many):
                    if levels.next(hand) is None:
                        continue
                    more = levels.copy()
                    more.step(hand)
                    key = (more.levels, more.views, tuple([str(more.next(at)) for at in range(many)]))
                    if key not in met:
                        met.add(key)
                        left.append(more)
                        stand.add(more.views)
            stand.discard((None,) * many)
            self.assertEqual(stand, set(rows_plainly(many)))

    def test_every_row(self):
        for many, count in ((1, 1), (2, 3), (3, 13), (4, 75), (5, 541)):
            rows = every_row(many)
            self.same(len(rows), count)
            self.assertEqual(list(rows), sorted(set(rows)))
            for row in rows:
                self.assertTrue(is_row_plainly(row) and None not in row)
        for many in (1, 2, 3):
            self.same(every_row(many), tuple(sorted([row for row in rows_plainly(many) if None not in row])))
        self.same(every_row(many=1), (((0,),),))

    def test_numbers_there_and_back(self):
        for many in (1, 2, 3, 4, 5):
            rows = every_row(many)
            for number in range(0, len(rows), 1 if many < 5 else 23):
                self.same(row_at(many, number), rows[number])
                self.same(number_of(many, rows[number]), number)
        self.same([row_at(many=3, number=12), number_of(many=2, row=((0, 1), (1,)))], [((0, 2), (0, 1, 2), (2,)), 2])

    def test_no_row(self):
        for many, count in ((1, 1), (2, 3), (3, 13), (4, 75), (5, 541)):
            for number in (count, -1, count + 100, True, False, None, "0", (0,), [0], 0.0):
                self.refuses(NoRow, number, row_at, many, number)

    def test_bad_row(self):
        for row in NO_ROWS:
            self.refuses(BadRow, row, number_of, 3, row)
            self.refuses(BadRow, row, weaving_to, 3, row)
            self.refuses(BadRow, row, shows_weaving_to, 3, row, ())
        for row in rows_plainly(3):
            if None in row:
                self.refuses(BadRow, row, number_of, 3, row)
        self.refuses(BadRow, ((0,), (0, 1)), number_of, 3, ((0,), (0, 1)))

    def test_rows_by_other_numbers(self):
        for names in permutations(range(3)):
            self.assertEqual({renamed(row, names) for row in every_row(3)}, set(every_row(3)))
            for row in rows_plainly(3):
                self.assertTrue(is_at_once(3, renamed(row, names)))


class Weavings(Case):
    def leads(self, many, row):
        """weaving_to leads to this row."""
        weaving = weaving_to(many, row)
        levels = Levels(many)
        levels.weave(weaving)
        self.same(levels.views, row)
        self.same(shows_weaving_to(many, row, weaving), True)
        return weaving

    def test_to_each_small_row(self):
        for many in (1, 2, 3):
            for row in rows_plainly(many):
                self.leads(many, row)

    def test_to_rows_of_more_hands(self):
        for many in (4, 5):
            for row in every_row(many):
                self.leads(many, row)
            for seed in range(300):
                any_of = random.Random(seed)
                row = list(any_of.choice(every_row(many)))
                for hand in any_of.sample(range(many), any_of.randint(1, many - 1)):
                    row[hand] = None
                self.leads(many, tuple(row))

    def test_hands_without_a_view(self):
        # Hand 2 stands in no view, hand 0 in one: it came, and stopped.
        weaving = self.leads(3, (None, (0, 1), None))
        self.assertTrue(0 in weaving and 2 not in weaving)
        self.leads(5, (None, None, None, (0, 1, 2, 3, 4), None))
        self.leads(5, ((0,), None, None, (0, 1, 2, 3), None))

    def test_near_misses(self):
        row = ((0,), (0, 1), None)
        weaving = weaving_to(3, row)
        self.same(shows_weaving_to(many=3, row=row, value=weaving), True)
        self.same(shows_weaving_to(3, row, weaving + (0,) * 5), True)
        for value in (weaving[:-1], weaving + (2,) * 20, (), list(weaving), weaving + (3,), weaving[1:], weaving[::-1],
                      tuple([hand == 1 if hand < 2 else hand for hand in weaving]), weaving + (0,) * 3001, None, "", weaving + (None,),
                      (0,) * 6 + (2,) * 6, (weaving,)):
            self.same(shows_weaving_to(3, row, value), False, value)
        for value in some_values():
            self.same(shows_weaving_to(3, row, value), False, value)
        self.same(shows_weaving_to(3, row, (0,) * 6 + (1,) * 2994), True)
        self.same(shows_weaving_to(3, row, (0,) * 6 + (1,) * 2995), False)


class Chains(Case):
    def leads(self, many, one, other):
        """chain leads from one to other."""
        rows = chain(many, one, other)
        self.assertIsInstance(rows, tuple)
        self.same([rows[0], rows[-1]], [one, other])
        for row, beside in zip(rows, rows[1:]):
            self.assertEqual(len([hand for hand in range(many) if row[hand] != beside[hand]]), 1)
        for row in rows:
            self.assertTrue(is_row_plainly(row) and None not in row and len(row) == many)
        self.same(shows_chain(many, one, other, rows), True)
        return rows

    def test_between_any_two(self):
        for many in (1, 2, 3):
            for one in every_row(many):
                for other in every_row(many):
                    self.leads(many, one, other)

    def test_between_some_of_more(self):
        for many in (4, 5):
            any_of = random.Random(many)
            rows = every_row(many)
            for _ in range(150 if many == 4 else 20):
                self.leads(many, any_of.choice(rows), any_of.choice(rows))
            self.leads(many, rows[0], rows[-1])

    def test_errors_in_sequence(self):
        good = ((0,), (0, 1), (0, 1, 2))
        for row in NO_ROWS + (((0,), (0, 1), None), ((0,), (0, 1))):
            self.refuses(BadRow, row, chain, 3, row, None)
            self.refuses(BadRow, row, chain, 3, good, row)
            self.refuses(BadRow, row, shows_chain, 3, row, None, ())
            self.refuses(BadRow, row, shows_chain, 3, good, row, ())
        self.refuses(BadRow, 1, chain, 3, 1, 2)

    def test_near_misses(self):
        rows = every_row(2)
        self.same(shows_chain(many=2, one=rows[0], other=rows[2], value=rows), True)
        for value in (rows[:2], rows[1:], rows[::2], rows[::-1], list(rows), rows[:1] + rows, rows + rows[2:], (), None, rows[0],
                      rows[:1] + (((0,), (1,)),) + rows[2:], rows[:1] + (((0, 1), None),) + rows[2:], rows[:1] + ([(0, 1), (0, 1)],) + rows[2:],
                      rows[:1] + (((False, True), (0, 1)),) + rows[2:], ((([0]), (0, 1)),) + rows[1:], (((False,), (0, 1)),) + rows[1:],
                      rows[:1] + (None,) + rows[2:]):
            self.same(shows_chain(2, rows[0], rows[2], value), False, value)
        self.same(shows_chain(2, rows[0], rows[2], rows + rows), False)
        self.same(shows_chain(2, rows[0], rows[2], rows[:2] + rows[:2] + rows[1:]), False)
        self.same(shows_chain(2, rows[0], rows[2], rows[:2] + rows[:1] + rows[1:]), True)
        self.same([shows_chain(2, rows[0], rows[0], value) for value in (rows[:1], (), rows[:2], rows[:2] + rows[:1])],
                  [True, False, False, True])
        for value in some_values():
            self.same(shows_chain(2, rows[0], rows[2], value), False)


if __name__ == "__main__":
    unittest.main()
