"""Points 12 and 13: the search for words by which all rows are right."""

import random
import unittest
import unittest.mock

from fewplaymany.search import Search


def some_rows(any_of, count, words):
    """Rows of two or three places, with ends."""
    rows = []
    for _ in range(any_of.randint(count, 2 * count + 2)):
        places = tuple(any_of.sample(range(count), any_of.choice((2, 2, 3))))
        rows.append((places, tuple([any_of.randrange(1, 1 << words) for _ in range(any_of.randint(1, 4))])))
    return rows


HALVES = ((0b0011, 0b1100), (0b0101, 0b1010), (0b1001, 0b0110))


def some_knots(any_of, count):
    """Rows of two places that halve four words in one of three ways, and rows of one place that bar two words of it."""
    rows = [(tuple(any_of.sample(range(count), 2)), any_of.choice(HALVES)) for _ in range(any_of.randint(count, count + 4))]
    return rows + [((place,), (any_of.choice(any_of.choice(HALVES)),)) for place in range(count) if any_of.random() < 0.3]


def hidden_knots(any_of, count):
    """Such rows that are right for words chosen ahead, which no row of them tells."""
    said = [any_of.randrange(4) for _ in range(count)]

    def held(words):
        ways = [halves for halves in HALVES if any(all(half >> word & 1 for word in words) for half in halves)]
        return any_of.choice(ways)

    pairs = [(place, any_of.randrange(place)) for place in range(1, count)] + [tuple(any_of.sample(range(count), 2)) for _ in range(count)]
    rows = [(pair, held([said[place] for place in pair])) for pair in pairs]
    for place in any_of.sample(range(count), 3):
        rows.append(((place,), tuple([half for half in held([said[place]]) if half >> said[place] & 1])))
    return rows


def can_be_right(rows, count, words, said=()):
    """Whether words for the places behind those said can make all rows right."""
    if not are_right([row for row in rows if max(row[0]) < len(said)], said):
        return False
    if len(said) == count:
        return True
    return any(can_be_right(rows, count, words, (*said, 1 << word)) for word in range(words))


def are_right(rows, said):
    """Whether the words said at all places, as bits, are right in each row."""
    return all(any(all(said[place] & end for place in places) for end in ends) for places, ends in rows)


class Searches(unittest.TestCase):
    def check(self, seed):
        any_of = random.Random(seed)
        count, words = any_of.choice(((3, 4), (4, 3), (5, 3), (6, 2), (7, 2), (6, 4), (8, 4), (10, 4), (12, 4)))
        rows = some_knots(any_of, count) if words == 4 else some_rows(any_of, count, words)
        ways = can_be_right(rows, count, words)
        found = Search(count, words, rows).found()
        self.assertEqual(found is not None, ways, rows)
        if found is not None:
            self.assertTrue(all(span in [1 << word for word in range(words)] for span in found))
            self.assertTrue(are_right(rows, found))
        return ways

    def test_against_all_ways(self):
        found = [self.check(seed) for seed in range(800)]
        self.assertGreater(min(found.count(True), found.count(False)), 100)

    def test_words_chosen_ahead_are_found_or_others(self):
        for tries in (1, 100):
            with unittest.mock.patch("fewplaymany.search.FIRST_TRIES", tries):
                for seed in range(150):
                    any_of = random.Random(seed)
                    count = any_of.randint(3, 12)
                    rows = hidden_knots(any_of, count)
                    found = Search(count, 4, rows).found()
                    self.assertIsNotNone(found)
                    self.assertTrue(are_right(rows, found) and set(found) <= {1, 2, 4, 8})

    def test_beginning_anew_again_and_again(self):
        with unittest.mock.patch("fewplaymany.search.FIRST_TRIES", 1):
            for seed in range(400):
                self.check(seed)

    def test_no_words(self):
        self.assertIsNone(Search(2, 2, [((0, 1), (0b01,)), ((1, 0), (0b10,))]).found())
        self.assertIsNone(Search(2, 2, [((0,), (0b01,)), ((1,), (0b10,)), ((0, 1), (0b01, 0b10))]).found())
        # Each two rows have words in common, but not all three.
        rows = [((0, 1), HALVES[0]), ((1, 2), HALVES[1]), ((2, 0), HALVES[2]), ((0,), (0b0110,)), ((1,), (0b1010,)), ((2,), (0b1001,))]
        self.assertEqual(Search(3, 4, rows).found() is not None, can_be_right(rows, 3, 4))


if __name__ == "__main__":
    unittest.main()
