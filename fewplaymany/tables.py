"""Tables of views: the plainest programs of all (section 13)."""

from fewplaymany.errors import BadMany, BadRounds, BadTable, BadWords, NoProgram, TooMany
from fewplaymany.kinds import are_words, is_below, is_whole, is_word
from fewplaymany.lots import lot_of
from fewplaymany.programs import AnyProgram
from fewplaymany.search import Search
from fewplaymany.sights import all_words, is_view, rows_of_views
from fewplaymany.table_hands import TableHand
from fewplaymany.values import is_same, is_value, value_key

MOST_HANDS = 3
MOST_ROUNDS = 3
MOST_ROWS = 20000

# How many rows of views come of a round of so many hands.
ROWS_OF_ROUND = (1, 1, 3, 19)

# How many rounds are decided, and for three hands for how many words.
MOST_DECIDED = (0, 0, 2, 1)
MOST_WORDS = 3


class Tabled(AnyProgram):
    """A program that writes and looks so many rounds, and says what its table tells of the last view."""

    def __init__(self, many, rounds, table):
        check_hands(many, rounds)
        if not is_table(table, many, rounds):
            raise BadTable(table)
        self.many = many
        self.rounds = rounds
        self.table = table
        self.boxes = 0
        self.told = {(hand, view): word for hand, view, word in table}

    def __eq__(self, other):
        if not isinstance(other, Tabled):
            return False
        return self.many == other.many and self.rounds == other.rounds and self.table == other.table

    def enter(self, number, word):
        """The TableHand of this number, with this word, as it stands at first."""
        return TableHand(self.told, self.rounds, number, word)


def check_hands(many, rounds):
    """Raises BadMany or BadRounds unless so many hands may have tables of so many rounds."""
    if not is_whole(many) or not 1 <= many <= MOST_HANDS:
        raise BadMany(many)
    if not is_whole(rounds) or not 0 <= rounds <= MOST_ROUNDS:
        raise BadRounds(rounds)


def is_table(value, many, rounds):
    """Whether value is a table for so many hands, of so many rounds."""
    if not isinstance(value, tuple) or not all([is_entry(thing, many, rounds) for thing in value]):
        return False
    keys = [value_key(entry[:2]) for entry in value]
    return all([one < other for one, other in zip(keys, keys[1:])])


def is_entry(value, many, rounds):
    """Whether value is (hand, view, WORD)."""
    if not isinstance(value, tuple) or len(value) != 3:
        return False
    hand, view, word = value
    return is_below(hand, many) and is_view(view, hand, many, rounds) and is_word(word)


def views(many, rounds, words):
    """All rows of views when just the hands with a word come, and say: ascending."""
    check_hands(many, rounds)
    if not are_words(words, many) or words == (None,) * many:
        raise BadWords(words)
    return tuple(sorted(rows_of_views(many, rounds, words), key=value_key))


def wrong_row(task, tabled):
    """(words, row) of which the table says what is not right by the task, None if there are none."""
    check_few(task, tabled)
    for words in all_words(task.words, tabled.many):
        for row in rows_of_views(tabled.many, tabled.rounds, words):
            if not is_right_row(task, tabled, words, row):
                return (words, row)
    return None


def check_few(task, tabled):
    """Raises NoProgram unless tabled is a Tabled, TooMany if its rows are too many to go through."""
    if not isinstance(tabled, Tabled):
        raise NoProgram(tabled)
    rows = 1
    for _ in range(tabled.many):
        rows = rows * (len(task.words) + 1)
    for _ in range(tabled.rounds):
        rows = rows * ROWS_OF_ROUND[tabled.many]
    if rows > MOST_ROWS:
        raise TooMany(MOST_ROWS)


def is_right_row(task, tabled, words, row):
    """Whether what the table says for the views of a row is right for these words."""
    said = [tabled.told.get((hand, view), 0) for hand, view in enumerate(row) if view is not None]
    return task.right(lot_brought(words), lot_of(said))


def lot_brought(words):
    """The lot of the words of hands that come."""
    return lot_of([word for word in words if word is not None])


def shows_wrong_row(task, tabled, value):
    """Whether value is such a result as wrong_row tells."""
    check_few(task, tabled)
    if value is None:
        return wrong_row(task, tabled) is None
    if not isinstance(value, tuple) or len(value) != 2:
        return False
    words, row = value
    if not are_words(words, tabled.many) or words not in all_words(task.words, tabled.many):
        return False
    if not is_value(row) or row not in rows_of_views(tabled.many, tabled.rounds, words):
        return False
    return not is_right_row(task, tabled, words, row)


def decided(task, many, rounds):
    """("table", a Tabled for so many hands and rounds that is right for the task), or ("none",)."""
    check_decided(task, many, rounds)
    numbers = {}
    rows = []
    for words in all_words(task.words, many):
        ends = tuple([span_of(task, end) for end in task.ends(lot_brought(words))])
        for row in rows_of_views(many, rounds, words):
            keys = [(hand, view) for hand, view in enumerate(row) if view is not None]
            rows.append((tuple([numbers.setdefault(key, len(numbers)) for key in keys]), ends))
    found = Search(len(numbers), len(task.spoken), rows).found()
    if found is None:
        return ("none",)
    table = [key + (word_of(task, found[number]),) for key, number in numbers.items()]
    return ("table", Tabled(many, rounds, tuple(sorted(table, key=value_key))))


def check_decided(task, many, rounds):
    """Raises what decided raises."""
    if not is_whole(many) or not 2 <= many <= 3:
        raise BadMany(many)
    if not is_whole(rounds) or not 0 <= rounds <= MOST_DECIDED[many]:
        raise BadRounds(rounds)
    if many == 3 and len(task.words) > MOST_WORDS:
        raise TooMany(MOST_WORDS)


def span_of(task, lot):
    """The words of a lot as bits of an integer, one for each word that may be said."""
    return sum([1 << at for at, word in enumerate(task.spoken) if word in lot])


def word_of(task, span):
    """The word of a span that has one."""
    return [word for at, word in enumerate(task.spoken) if span & (1 << at)][0]


def shows_decided(task, many, rounds, value):
    """Whether value is such a result as decided tells."""
    check_decided(task, many, rounds)
    if not isinstance(value, tuple):
        return False
    if len(value) != 2:
        return is_same(value, ("none",)) and decided(task, many, rounds) == ("none",)
    kind, tabled = value
    if kind != "table" or not isinstance(tabled, Tabled) or tabled.many != many or tabled.rounds != rounds:
        return False
    return wrong_row(task, tabled) is None
