"""Tasks of words (section 11)."""

from fewplaymany.errors import BadLot, BadPairs, BadTask, NoWords, OtherWords
from fewplaymany.kinds import is_lot, is_word, number_in
from fewplaymany.lots import greatest_lots, lies_in, lot_of, lots_within

MOST_LINES = 20
MOST_BROUGHT = 4
MOST_LEFT = 6
MOST_SPOKEN = 8


class Task:
    """A task by its text: which words may be said when which were brought."""

    def __init__(self, text):
        if not isinstance(text, str):
            raise BadTask(0)
        lines = lines_in(text)
        self.text = text
        self.lines = lines
        self.words = left_words(lines)
        self.spoken = spoken_words(lines)

    def __eq__(self, other):
        return isinstance(other, Task) and self.text == other.text

    def __len__(self):
        return len(self.lines)

    def ends(self, lot):
        """The greatest lots that may be said when this lot was brought."""
        if not is_lot(lot):
            raise BadLot(lot)
        if not lot or not lies_in(lot, self.words):
            raise NoWords(lot)
        return greatest_lots([end for left, ends in self.lines if lies_in(left, lot) for end in ends])

    def right(self, brought, said):
        """Whether the lot said is right when the lot brought was brought."""
        ends = self.ends(brought)
        if not is_lot(said):
            raise BadLot(said)
        return any([lies_in(said, end) for end in ends])


def lines_in(text):
    """The tuple of (left lot, its ends) of all lines of a task's text."""
    lines = []
    for number, line in enumerate(text.split("\n"), 1):
        found = line_in(line)
        if found is None or not may_stand([*lines, found]):
            raise BadTask(number)
        lines.append(found)
    lefts = [line[0] for line in lines]
    if not all([(word,) in lefts for word in left_words(lines)]):
        raise BadTask(len(lines) + 1)
    return tuple(lines)


def line_in(line):
    """(left lot, its ends) of a line, None if it has no such form."""
    sides = line.split(" : ")
    if len(sides) != 2:
        return None
    left = lot_text_in(sides[0])
    ends = [lot_text_in(part) for part in sides[1].split(" | ")]
    if left is None or len(left) > MOST_BROUGHT or None in ends:
        return None
    return left, tuple(ends)


def lot_text_in(text):
    """The lot of one or more words that a text writes, None if it writes none."""
    words = tuple([number_in(word, 0, 99) for word in text.split(" ")])
    return words if is_lot(words) else None


def may_stand(lines):
    """Whether the last one of these lines may stand behind the others, which may."""
    left = lines[-1][0]
    if len(lines) > MOST_LINES or left in [line[0] for line in lines[:-1]]:
        return False
    return len(left_words(lines)) <= MOST_LEFT and len(spoken_words(lines)) <= MOST_SPOKEN


def left_words(lines):
    """The lot of all words on the left of these lines."""
    return lot_of([word for left, ends in lines for word in left])


def spoken_words(lines):
    """The lot of all words behind the colons of these lines."""
    return lot_of([word for left, ends in lines for end in ends for word in end])


def within(one, other):
    """Whether all that is right by one is right by other: ("within",), or what is not."""
    if one.words != other.words:
        raise OtherWords(other)
    for brought in lots_within(one.words):
        for said in one.ends(brought):
            if not other.right(brought, said):
                return ("beyond", brought, said)
    return ("within",)


def shows_within(one, other, value):
    """Whether value is such a result as within tells."""
    found = within(one, other)
    if found == ("within",):
        return value == found
    return is_beyond(one, other, value)


def is_beyond(one, other, value):
    """Whether value is ("beyond", brought, said) of lots right by one, and not by other."""
    if not isinstance(value, tuple) or len(value) != 3 or value[0] != "beyond":
        return False
    word, brought, said = value
    if not is_lot(brought) or not is_lot(said) or brought == () or not lies_in(brought, one.words):
        return False
    return one.right(brought, said) and not other.right(brought, said)


def renamed(task, pairs):
    """The task with each of its words exchanged for the second one of its pair."""
    if not are_pairs(pairs) or [pair[0] for pair in pairs] != list(lot_of([*task.words, *task.spoken])):
        raise BadPairs(pairs)
    names = {one: other for one, other in pairs}
    if len(set(list(names.values()))) < len(pairs):
        raise BadPairs(pairs)
    return Task("\n".join([renamed_line(line, names) for line in task.lines]))


def are_pairs(value):
    """Whether value is a tuple of (WORD, WORD)."""
    if not isinstance(value, tuple):
        return False
    pairs = [thing for thing in value if isinstance(thing, tuple) and len(thing) == 2]
    return len(pairs) == len(value) and all([is_word(one) and is_word(other) for one, other in pairs])


def renamed_line(line, names):
    """The text of a line, each word exchanged for its name."""
    left, ends = line
    return f"{renamed_lot(left, names)} : " + " | ".join([renamed_lot(end, names) for end in ends])


def renamed_lot(lot, names):
    """The text of a lot, each word exchanged for its name."""
    return " ".join([str(word) for word in lot_of([names[word] for word in lot])])


def judged_house(task, house):
    """None if what was said in a House is right for what was brought; otherwise the lot said."""
    brought = lot_of([house.words[step[0]] for step in house.run])
    if not brought:
        return None
    said = lot_of([word for word in house.said if word is not None])
    return None if task.right(brought, said) else said
